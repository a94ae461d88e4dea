/- What law 6 asks of package code, in one structure, over any reader of its own: to be filled on the landed code. -/
import Derived.Test.YtcihojimojipiaaCodA
namespace Go.Proofs.Ytcihojimojipiaa
open Go.RowKit

/-- The slice value reads as the list of texts, below block B. -/
def LstS (w : World) (B : Nat) (v : Value) (ss : List ByteArray) : Prop :=
  ∃ (A : Option Addr) (c : Nat), v = .slice A ss.length c ∧ ss.length ≤ c ∧
    (0 < ss.length → ∃ ad, A = some ad ∧ ad.block < B ∧ ∀ j (h : j < ss.length), w.cell? (ad.add j) = some (.string ss[j]))
section
variable {w w' : World} {B B' : Nat} {v : Value} {ss : List ByteArray}
theorem LstS.below (h : LstS w B v ss) (hb : Below B w w') : LstS w' B v ss := by
  obtain ⟨A, c, rfl, hc, hr⟩ := h
  refine ⟨A, c, rfl, hc, fun hn => ?_⟩
  obtain ⟨ad, e, hbk, hcell⟩ := hr hn
  exact ⟨ad, e, hbk, fun j hj => (hb.cell (by rw [block_of_add]; exact hbk)).trans (hcell j hj)⟩
theorem LstS.more (h : LstS w B v ss) (hB : B ≤ B') : LstS w B' v ss := by
  obtain ⟨A, c, rfl, hc, hr⟩ := h
  refine ⟨A, c, rfl, hc, fun hn => ?_⟩
  obtain ⟨ad, e, hb, hcell⟩ := hr hn
  exact ⟨ad, e, by omega, hcell⟩
theorem LstS.len (h : LstS w B v ss) : ∃ A c, v = .slice A ss.length c := by obtain ⟨A, c, h, _⟩ := h; exact ⟨A, c, h⟩
end
/-- The bytes of a list. -/
def uintsL (zs : List Int) : List Int := zs.flatMap fun z => lebL z.toNat
def intsL (zs : List Int) : List Int := zs.flatMap fun z => lebL (turnI z).toNat
def textsL (ss : List ByteArray) : List Int := ss.flatMap txtL
def IsByte (bs : List Int) : Prop := ∀ c ∈ bs, 0 ≤ c ∧ c ≤ 255
abbrev ptrV (g : Nat) : Value := .pointer (some ⟨g, 0, none⟩)

structure CodeC (Rd : World → Nat → Nat → Nat → List Int → Int → Prop) : Prop where
  keep : ∀ {w w' : World} {g L U bs e}, Rd w g L U bs e → w.heap.size ≤ w'.heap.size → (∀ k, L ≤ k → k < U → w'.heap[k]? = w.heap[k]?) → Rd w' g L U bs e
  lt : ∀ {w : World} {g L U bs e}, Rd w g L U bs e → L ≤ U ∧ U ≤ w.heap.size
  new : ∀ v zs w, Lst w w.heap.size .u8 v zs → IsByte zs → zs.length ≤ 1000000 → Calls Try.prog 21 #[v] w fun e w' => ∃ g, e = .returned (ptrV g) ∧ Rd w' g w.heap.size w'.heap.size zs 0 ∧ Below w.heap.size w w'
  uint : ∀ w g L U bs e, Rd w g L U bs e → IsByte bs → bs.length ≤ 1000000 → Calls Try.prog 23 #[ptrV g] w fun e' w' => e' = .returned (.int .u64 (stU bs e).1) ∧ Rd w' g L U (stU bs e).2.1 (stU bs e).2.2 ∧ Aside L U w w'
  int : ∀ w g L U bs e, Rd w g L U bs e → IsByte bs → bs.length ≤ 1000000 → Calls Try.prog 25 #[ptrV g] w fun e' w' => e' = .returned (.int .i64 (unturnI (stU bs e).1)) ∧ Rd w' g L U (stU bs e).2.1 (stU bs e).2.2 ∧ Aside L U w w'
  count : ∀ w g L U bs e most, Rd w g L U bs e → IsByte bs → bs.length ≤ 1000000 → Fits most → Calls Try.prog 29 #[ptrV g, .int .i64 most] w fun e' w' => e' = .returned (.int .i64 (stC bs e most).1) ∧ Rd w' g L U (stC bs e most).2.1 (stC bs e most).2.2 ∧ Aside L U w w'
  text : ∀ w g L U bs e most, Rd w g L U bs e → IsByte bs → bs.length ≤ 1000000 → Fits most → Calls Try.prog 27 #[ptrV g, .int .i64 most] w fun e' w' => e' = .returned (.string (bytS (stT bs e most).1)) ∧ Rd w' g L U (stT bs e most).2.1 (stT bs e most).2.2 ∧ Aside L U w w'
  end_ : ∀ w g L U bs e, Rd w g L U bs e → Calls Try.prog 31 #[ptrV g] w fun e' w' => e' = .returned (.int .i64 (stE bs e)) ∧ Rd w' g L U bs (stE bs e) ∧ Aside L U w w'
  err : ∀ w g L U bs e, Rd w g L U bs e → Calls Try.prog 33 #[ptrV g] w fun e' w' => e' = .returned (.int .i64 e) ∧ Below w.heap.size w w'
  left : ∀ w g L U bs e, Rd w g L U bs e → Calls Try.prog 34 #[ptrV g] w fun e' w' => e' = .returned (.int .i64 bs.length) ∧ Below w.heap.size w w'
  uints : ∀ v zs w, Lst w w.heap.size .u64 v zs → (∀ z ∈ zs, 0 ≤ z ∧ z < 18446744073709551616) → zs.length ≤ 1000000 → Calls Try.prog 17 #[v] w (Copied 5 .u8 w (uintsL zs))
  ints : ∀ v zs w, Lst w w.heap.size .i64 v zs → (∀ z ∈ zs, Fits z) → zs.length ≤ 1000000 → Calls Try.prog 18 #[v] w (Copied 5 .u8 w (intsL zs))
  texts : ∀ v ss w, LstS w w.heap.size v ss → (∀ s ∈ ss, s.size ≤ 1000000) → ss.length ≤ 1000000 → Calls Try.prog 19 #[v] w (Copied 5 .u8 w (textsL ss))
  turn : ∀ v w, Fits v → Calls Try.prog 12 #[.int .i64 v] w fun e w' => e = .returned (.int .u64 (turnI v)) ∧ Below w.heap.size w w'
  unturn : ∀ u w, 0 ≤ u → u < 18446744073709551616 → Calls Try.prog 10 #[.int .u64 u] w fun e w' => e = .returned (.int .i64 (unturnI u)) ∧ Below w.heap.size w w'
section
variable {Rd : World → Nat → Nat → Nat → List Int → Int → Prop} {w w' : World} {g L U L' U' : Nat} {bs : List Int} {e : Int}
theorem CodeC.below (G : CodeC Rd) (h : Rd w g L U bs e) (hb : Below w.heap.size w w') : Rd w' g L U bs e := G.keep h hb.size fun k _ hk => hb.block k (Nat.lt_of_lt_of_le hk (G.lt h).2)
theorem CodeC.alloc (G : CodeC Rd) (h : Rd w g L U bs e) (o : Obj) : Rd (w.alloc o) g L U bs e := G.below h (below_new w o)
theorem CodeC.drew (G : CodeC Rd) (h : Rd w g L U bs e) : Rd w.drew g L U bs e := G.keep h (Nat.le_refl _) fun _ _ _ => rfl
theorem CodeC.aside (G : CodeC Rd) (h : Rd w g L U bs e) (hb : Aside L' U' w w') (hU : U ≤ L') : Rd w' g L U bs e := G.keep h hb.size fun k _ hk => hb.block k (Nat.lt_of_lt_of_le hk (G.lt h).2) (Or.inl (Nat.lt_of_lt_of_le hk hU))
end
end Go.Proofs.Ytcihojimojipiaa
