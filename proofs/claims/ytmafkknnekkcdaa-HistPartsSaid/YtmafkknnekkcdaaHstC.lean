/- What law 5 asks of package hist, package gap and package wide, in one structure: to be filled on the landed code. -/
import Derived.Test.YtmafkknnekkcdaaHstOr
import Derived.Test.YtmafkknnekkcdaaTwo
import Derived.RangeFuncFrom
namespace Go.Proofs.Ytmafkknnekkcdaa
open Go.RowKit

/-- The buckets whose count isn't zero, with their counts, in order. -/
def fullL (hs : List Int) : List (Int × Int) := (List.range 65).filterMap fun b => if hs.getD b 0 = 0 then none else some (((b : Nat) : Int), hs.getD b 0)
abbrev encB (p : Int × Int) : Array Value := #[.int .i64 p.1, .int .i64 p.2]
/-- What a round keeps for an iterator whose own blocks are those from L to U. -/
def KeepsIn (L U : Nat) (W W' : World) : Prop := W.heap.size ≤ W'.heap.size ∧ ∀ k, L ≤ k → k < U → W'.heap[k]? = W.heap[k]?
theorem KeepsIn.trans {L U : Nat} {A B C : World} (h : KeepsIn L U A B) (k : KeepsIn L U B C) : KeepsIn L U A C := ⟨Nat.le_trans h.1 k.1, fun i h1 h2 => (k.2 i h1 h2).trans (h.2 i h1 h2)⟩
theorem KeepsIn.putObj {L U : Nat} {w : World} (hU : U ≤ w.heap.size) (W : World) (l : Nat) (o o' : Obj) (hl : w.heap.size ≤ l) (h : W.heap[l]? = some o) (_ : o.isCells = false) (_ : o.isWalk = false) : KeepsIn L U W (W.putObj l o') := by
  have hb := belowK_b (n₀ := U) hU W l o o' hl h ‹_› ‹_›
  exact ⟨hb.size, fun k _ hk => hb.block k hk⟩
theorem KeepsIn.of_below {L U : Nat} {W W' : World} (h : Below U W W') : KeepsIn L U W W' := ⟨h.size, fun k _ hk => h.block k hk⟩

theorem Lst.fresh (w : World) (zs : List Int) (t : TypeId) (g : Nat) (hg : Hid (g = w.heap.size)) : Lst (w.alloc (.cells ((zs.map (Value.int .i64)).toArray) t)) (w.alloc (.cells ((zs.map (Value.int .i64)).toArray) t)).heap.size .i64 (.slice (some ⟨g, 0, none⟩) zs.length zs.length) zs := by
  have hg := hg.out; subst hg
  rw [World.size_alloc]
  exact Lst.new w t _ rfl

structure HistC : Prop where
  bucket : ∀ v w, Fits v → Calls Try.prog 9 #[.int .i64 v] w fun e w' => e = .returned (.int .i64 ((bktN v : Nat) : Int)) ∧ Below w.heap.size w w'
  bounds : ∀ (b : Nat) w, b ≤ 64 → Calls Try.prog 11 #[.int .i64 b] w fun e w' => e = .returned (.tuple #[.agg #[.int .i64 (bndI b).1, .int .i64 (bndI b).2], .bool true]) ∧ Below w.heap.size w w'
  none : ∀ (b : Int) w, Fits b → (b < 0 ∨ 64 < b) → Calls Try.prog 11 #[.int .i64 b] w fun e w' => e = .returned (.tuple #[.agg #[.int .i64 0, .int .i64 0], .bool false]) ∧ Below w.heap.size w w'
  of : ∀ v zs w, Lst w w.heap.size .i64 v zs → (∀ z ∈ zs, Fits z) → zs.length ≤ 1000000 → Calls Try.prog 14 #[v] w fun e w' => e = .returned (rowV (histOf zs)) ∧ Below w.heap.size w w'
  merge : ∀ v rs w, RowsS w w.heap.size v rs → (∀ r ∈ rs, ∀ z ∈ r, Fits z) → rs.length ≤ 1000000 → Calls Try.prog 16 #[v] w fun e w' => RowE (mergeI rs) e ∧ Below w.heap.size w w'
  add : ∀ hs v w, hs.length = 65 → (∀ z ∈ hs, Fits z) → Fits v → Calls Try.prog 19 #[rowV hs, .int .i64 v] w fun e w' => RowE (mergeI [hs, histOf [v]]) e ∧ Below w.heap.size w w'
  total : ∀ hs w, hs.length = 65 → (∀ z ∈ hs, Fits z) → Calls Try.prog 23 #[rowV hs] w fun e w' => e = .returned (.agg #[.int .i64 ((hs.sum) / 18446744073709551616), .int .u64 ((hs.sum) % 18446744073709551616)]) ∧ Below w.heap.size w w'
  rank : ∀ hs hi lo w, hs.length = 65 → (∀ z ∈ hs, Fits z) → Fits hi → 0 ≤ lo → lo < 18446744073709551616 → Calls Try.prog 24 #[rowV hs, .agg #[.int .i64 hi, .int .u64 lo]] w fun e w' => e = .returned (.tuple #[.int .i64 (if 0 ≤ rankV hs hi lo then rankV hs hi lo else 0), .bool (decide (0 ≤ rankV hs hi lo))]) ∧ Below w.heap.size w w'
  full : ∀ hs w, hs.length = 65 → (∀ z ∈ hs, Fits z) → Calls Try.prog 26 #[rowV hs] w fun e w' => Below w.heap.size w w' ∧ ∃ (gf : Nat) (lb : Array Value), e = .returned (.func (.func gf) #[] lb) ∧ (∀ args W, (callFunc gf args).run Try.prog W = .ok (.enter gf args) W) ∧
    ∀ w0, KeepsIn w.heap.size w'.heap.size w' w0 → ∀ (α : Type) (encs : α → Array Value) (xs : List α), xs.map encs = (fullL hs).map encB → SeqStopsK Fence.wide 7 Try.prog gf lb encs (KeepsIn w.heap.size w'.heap.size) (fun ys => ys = xs) (fun pre => pre <+: xs) 65 w0
  wide : ∀ (n : Nat) w, n ≤ 1000000 → Calls Try.prog 27 #[.int .i64 n] w fun e w' => e = .returned (.agg #[.int .i64 0, .int .u64 n]) ∧ Below w.heap.size w w'
  right : ∀ a b w, Calls Try.prog 12 #[.agg #[.int .i64 a, .int .i64 b]] w fun e w' => e = .returned (.bool (decide (a ≤ b))) ∧ Below w.heap.size w w'
  has : ∀ a b x w, Calls Try.prog 13 #[.agg #[.int .i64 a, .int .i64 b], .int .i64 x] w fun e w' => e = .returned (.bool (decide (a ≤ x ∧ x ≤ b))) ∧ Below w.heap.size w w'
end Go.Proofs.Ytmafkknnekkcdaa
