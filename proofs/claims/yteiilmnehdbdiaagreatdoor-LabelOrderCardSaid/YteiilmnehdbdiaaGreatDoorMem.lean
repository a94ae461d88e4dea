/- Lists of numbers in memory; what calls leave as it was; variables of two cells; what a call leaves aside; lists of bytes. -/
import Derived.Test.YteiilmnehdbdiaaGreatDoorNum
import Derived.Below
import Derived.Laws.OwnMore
import Derived.Deep.AppendLies
import Derived.Deep.Draws
import Derived.Maps.AppendAt
import Derived.RegionTactic
import Derived.OwnWalk
namespace Go.Proofs.YteiilmnehdbdiaaGreatDoor

section
open Go.RowKit

theorem block_of_add (a : Addr) (n : Nat) : (a.add n).block = a.block := by unfold Addr.add; split <;> rfl

/-- The slice value reads as the list of numbers, below block B. -/
def Lst (w : World) (B : Nat) (k : IntKind) (v : Value) (zs : List Int) : Prop :=
  ∃ (A : Option Addr) (c : Nat), v = .slice A zs.length c ∧ zs.length ≤ c ∧
    (0 < zs.length → ∃ ad, A = some ad ∧ ad.block < B ∧ ∀ j (h : j < zs.length), w.cell? (ad.add j) = some (.int k zs[j]))

section
variable {w w' : World} {B B' : Nat} {k : IntKind} {v : Value} {zs : List Int}
theorem Lst.keep (h : Lst w B k v zs) (hk : ∀ p : Addr, p.block < B → w'.cell? p = w.cell? p) : Lst w' B k v zs := by
  obtain ⟨A, c, rfl, hc, hr⟩ := h
  refine ⟨A, c, rfl, hc, fun hn => ?_⟩
  obtain ⟨ad, e, hb, hcell⟩ := hr hn
  exact ⟨ad, e, hb, fun j hj => (hk _ (by rw [block_of_add]; exact hb)).trans (hcell j hj)⟩
theorem Lst.more (h : Lst w B k v zs) (hB : B ≤ B') : Lst w B' k v zs := by
  obtain ⟨A, c, rfl, hc, hr⟩ := h
  refine ⟨A, c, rfl, hc, fun hn => ?_⟩
  obtain ⟨ad, e, hb, hcell⟩ := hr hn
  exact ⟨ad, e, by omega, hcell⟩
theorem Lst.below (h : Lst w B k v zs) (hb : Below B w w') : Lst w' B k v zs := h.keep fun _ hp => hb.cell hp
theorem Lst.nil (w : World) (B : Nat) (k : IntKind) : Lst w B k (.slice none 0 0) [] := ⟨none, 0, rfl, Nat.le_refl _, fun h => absurd h (by simp)⟩
theorem Lst.of_own {e : TypeId} {base : Nat} {A : Option Addr} {c : Nat} (h : w.ownsRow base e 1 (.slice A zs.length c) zs.length (zs.map (Value.int k))) (hc : zs.length ≤ c) :
    Lst w w.heap.size k (.slice A zs.length c) zs := by
  refine ⟨A, c, rfl, hc, fun hn => ?_⟩
  obtain ⟨g, cap, hv, _, hlt⟩ := h.form hn
  have hA : A = some ⟨g, 0, none⟩ := by injection hv
  subst hA
  exact ⟨_, rfl, hlt, fun j hj => h.cells (g := g) rfl j _ (by simp [hj])⟩
/-- A slice that was just written out. -/
theorem Lst.new (w : World) (t : TypeId) (cs : Array Value) (hcs : cs = (zs.map (Value.int k)).toArray) : Lst (w.alloc (.cells cs t)) (w.heap.size + 1) k (.slice (some ⟨w.heap.size, 0, none⟩) zs.length zs.length) zs := by
  subst hcs
  refine ⟨_, _, rfl, Nat.le_refl _, fun hn => ⟨_, rfl, Nat.lt_succ_self _, fun j hj => ?_⟩⟩
  have e : (Addr.mk w.heap.size 0 none).add j = ⟨w.heap.size, j, none⟩ := by unfold Addr.add; split <;> simp_all
  rw [e, World.cell?_alloc_new]
  simp [hj]
theorem Lst.cut {A : Option Addr} {n c : Nat} (h : Lst w B k (.slice A n c) zs) {m : Nat} (hm : m ≤ zs.length) : Lst w B k (.slice A m c) (zs.take m) := by
  obtain ⟨A', c', e, hc, hr⟩ := h
  injection e with e1 e2 e3
  subst e1; subst e3
  have hl : (zs.take m).length = m := by rw [List.length_take]; omega
  refine ⟨A, c, by rw [hl], by omega, fun hn => ?_⟩
  obtain ⟨ad, e, hb, hcell⟩ := hr (by omega)
  refine ⟨ad, e, hb, fun j hj => ?_⟩
  rw [hcell j (by omega), List.getElem_take]
/-- A store where no number lies leaves a list of numbers as it was. -/
theorem Lst.store {p : Addr} {x : Value} (h : Lst w B k v zs) (hx : w.cell? p = some x) (hk : ∀ n, x ≠ .int k n) (y : Value) : Lst (w.setCell p y) B k v zs := by
  obtain ⟨A, c, e, hc, hr⟩ := h
  refine ⟨A, c, e, hc, fun hn => ?_⟩
  obtain ⟨ad, ea, hb, hcell⟩ := hr hn
  refine ⟨ad, ea, hb, fun j hj => ?_⟩
  rw [World.cell?_setCell_other w p (ad.add j) y (fun e => ?_)]
  · exact hcell j hj
  · have := hcell j hj
    rw [← e, hx] at this
    injection this with this
    exact hk _ this
theorem Lst.len (h : Lst w B k v zs) : ∃ A c, v = .slice A zs.length c := by obtain ⟨A, c, h, _⟩ := h; exact ⟨A, c, h⟩
end
theorem below_drewN {B : Nat} {a w : World} (h : Below B a w) (n : Nat) : Below B a (w.drewN n) := ⟨h.os, h.tape, h.output, h.size, h.block⟩
theorem below_new (w : World) (o : Obj) : Below w.heap.size w (w.alloc o) := (Below.refl _ _).alloc (Nat.le_refl _) o
end

section
open Go.RowKit

theorem bcell {W w1 : World} {B : Nat} (hb : Below B W w1) : (∀ b o, b < B → w1.cell? ⟨b, o, none⟩ = W.cell? ⟨b, o, none⟩) ∧ (∀ b o, b < B → w1.frozen? ⟨b, o, none⟩ = W.frozen? ⟨b, o, none⟩) :=
  ⟨fun b o h => hb.cell (p := ⟨b, o, none⟩) h, fun b o h => hb.frozen (p := ⟨b, o, none⟩) h⟩
theorem below_undrew {B : Nat} {W w1 : World} (h : Below B W.drew w1) : Below B W w1 := ⟨h.os, h.tape, h.output, h.size, h.block⟩
/-! a world that has grown out of another one, step by step -/
theorem ext_step {w X Y : World} (h : Below w.heap.size w X) (hb : Below X.heap.size X Y) : Below w.heap.size w Y := h.trans (hb.mono h.size)
theorem ext_alloc {w X : World} (h : Below w.heap.size w X) (o : Obj) : Below w.heap.size w (X.alloc o) := h.alloc h.size o
theorem ext_drew {w X : World} (h : Below w.heap.size w X) : Below w.heap.size w X.drew := h.drew
theorem ext_drewN {w X : World} (h : Below w.heap.size w X) (n : Nat) : Below w.heap.size w (X.drewN n) := below_drewN h n
theorem ext_put {w X : World} (h : Below w.heap.size w X) {p : Addr} (hp : w.heap.size ≤ p.block) (u : Value) : Below w.heap.size w (X.setCell p u) := h.setCell hp u
end

section
open Go.RowKit

/-- Block b holds two values, and they may be written. -/
structure At2 (w : World) (b : Nat) (x y : Value) : Prop where
  c0 : w.cell? ⟨b, 0, none⟩ = some x
  c1 : w.cell? ⟨b, 1, none⟩ = some y
  f0 : w.frozen? ⟨b, 0, none⟩ = false
  f1 : w.frozen? ⟨b, 1, none⟩ = false
section
variable {w w1 : World} {b : Nat} {x y : Value}
theorem At2.lt (a : At2 w b x y) : b < w.heap.size := World.block_lt_of_cell? _ _ a.c0
theorem At2.below (a : At2 w b x y) (hb : Below w.heap.size w w1) : At2 w1 b x y := by
  obtain ⟨hc, hf⟩ := bcell hb
  have := a.lt
  exact ⟨(hc _ _ this).trans a.c0, (hc _ _ this).trans a.c1, (hf _ _ this).trans a.f0, (hf _ _ this).trans a.f1⟩
theorem At2.drew (a : At2 w b x y) : At2 w.drew b x y := ⟨a.c0, a.c1, a.f0, a.f1⟩
theorem At2.drewN (a : At2 w b x y) (n : Nat) : At2 (w.drewN n) b x y := ⟨a.c0, a.c1, a.f0, a.f1⟩
theorem At2.alloc (a : At2 w b x y) (o : Obj) : At2 (w.alloc o) b x y := a.below (below_new w o)
theorem At2.other (a : At2 w b x y) {b' : Nat} (hb : b ≠ b') (i : Nat) (u : Value) : At2 (w.setCell ⟨b', i, none⟩ u) b x y := by
  have e : ∀ j, (w.setCell ⟨b', i, none⟩ u).cell? ⟨b, j, none⟩ = w.cell? ⟨b, j, none⟩ := fun j => by
    rw [World.cell?_setCell_other _ _ _ _ (fun e => hb (by injection e with e1; exact e1.symm))]
  exact ⟨(e 0).trans a.c0, (e 1).trans a.c1, by simpa using a.f0, by simpa using a.f1⟩
theorem At2.set0 (a : At2 w b x y) (x' : Value) : At2 (w.setCell ⟨b, 0, none⟩ x') b x' y :=
  ⟨World.cell?_setCell_same _ _ _ a.c0, by rw [World.cell?_setCell_other _ _ _ _ (by simp)]; exact a.c1, by simpa using a.f0, by simpa using a.f1⟩
theorem At2.set1 (a : At2 w b x y) (y' : Value) : At2 (w.setCell ⟨b, 1, none⟩ y') b x y' :=
  ⟨by rw [World.cell?_setCell_other _ _ _ _ (by simp)]; exact a.c0, World.cell?_setCell_same _ _ _ a.c1, by simpa using a.f0, by simpa using a.f1⟩
end
theorem At2.new (w : World) (x y : Value) (t : TypeId) : At2 (w.alloc (.cells #[x, y] t)) w.heap.size x y := by
  have fz : ∀ i, (w.alloc (.cells #[x, y] t)).frozen? ⟨w.heap.size, i, none⟩ = false := fun i => by
    unfold World.frozen?
    show (match (w.alloc (.cells #[x, y] t)).heap[w.heap.size]? with | some (.cells _ _ (lo, hi)) => decide (lo ≤ i) && decide (i < hi) | _ => false) = false
    rw [heap_alloc_new]; simp
  exact ⟨World.cell?_alloc_new (w := w) _ _ 0, World.cell?_alloc_new (w := w) _ _ 1, fz 0, fz 1⟩
theorem grew1 (w : World) (o : Obj) : Below w.heap.size w (w.alloc o) := (Below.refl _ _).alloc (Nat.le_refl _) o
theorem grew2 (w : World) (o p : Obj) : Below w.heap.size w ((w.alloc o).alloc p) := (grew1 w o).alloc (by simp) p
theorem grew3 (w : World) (o p q : Obj) : Below w.heap.size w (((w.alloc o).alloc p).alloc q) := (grew2 w o p).alloc (by simp; omega) q
end

section
open Go.RowKit

structure Aside (L U : Nat) (w w' : World) : Prop where
  os : w'.os = w.os
  tape : w'.tape = w.tape
  output : w'.output = w.output
  size : w.heap.size ≤ w'.heap.size
  block : ∀ k, k < w.heap.size → (k < L ∨ U ≤ k) → w'.heap[k]? = w.heap[k]?
section
variable {L U B : Nat} {a b c w w' : World}
theorem Aside.below (h : Aside L U w w') (hB : B ≤ L) (hw : B ≤ w.heap.size) : Below B w w' := ⟨h.os, h.tape, h.output, h.size, fun k hk => h.block k (Nat.lt_of_lt_of_le hk hw) (Or.inl (Nat.lt_of_lt_of_le hk hB))⟩
theorem Aside.refl (L U : Nat) (w : World) : Aside L U w w := ⟨rfl, rfl, rfl, Nat.le_refl _, fun _ _ _ => rfl⟩
theorem Aside.trans (h : Aside L U a b) (k : Aside L U b c) : Aside L U a c :=
  ⟨k.os.trans h.os, k.tape.trans h.tape, k.output.trans h.output, Nat.le_trans h.size k.size, fun i hi ho => (k.block i (Nat.lt_of_lt_of_le hi h.size) ho).trans (h.block i hi ho)⟩
theorem Aside.step (h : Aside L U a w) (k : Below w.heap.size w w') : Aside L U a w' :=
  ⟨k.os.trans h.os, k.tape.trans h.tape, k.output.trans h.output, Nat.le_trans h.size k.size, fun i hi ho => (k.block i (Nat.lt_of_lt_of_le hi h.size)).trans (h.block i hi ho)⟩
theorem Aside.alloc (h : Aside L U a w) (o : Obj) : Aside L U a (w.alloc o) := h.step (below_new w o)
theorem Aside.drew (h : Aside L U a w) : Aside L U a w.drew := ⟨h.os, h.tape, h.output, h.size, h.block⟩
theorem Aside.put (h : Aside L U a w) {p : Addr} (h1 : L ≤ p.block) (h2 : p.block < U) (u : Value) : Aside L U a (w.setCell p u) :=
  ⟨h.os, h.tape, h.output, by rw [World.size_setCell]; exact h.size, fun i hi ho => (Below.heap_setCell w p u i (by omega)).trans (h.block i hi ho)⟩
theorem Aside.cell (h : Aside L U w w') {p : Addr} (hp : p.block < w.heap.size) (ho : p.block < L ∨ U ≤ p.block) : w'.cell? p = w.cell? p := World.cell?_of_block (w := w) (h.block p.block hp ho)
theorem Aside.frozen (h : Aside L U w w') {p : Addr} (hp : p.block < w.heap.size) (ho : p.block < L ∨ U ≤ p.block) : w'.frozen? p = w.frozen? p := World.frozen?_of_block (w := w) (h.block p.block hp ho)
theorem Aside.at2 {x y : Value} {g : Nat} (h : Aside L U w w') (k : At2 w g x y) (ho : g < L ∨ U ≤ g) : At2 w' g x y :=
  ⟨(h.cell (p := ⟨g, 0, none⟩) k.lt ho).trans k.c0, (h.cell (p := ⟨g, 1, none⟩) k.lt ho).trans k.c1, (h.frozen (p := ⟨g, 0, none⟩) k.lt ho).trans k.f0, (h.frozen (p := ⟨g, 1, none⟩) k.lt ho).trans k.f1⟩
theorem Aside.lst {k : IntKind} {v : Value} {zs : List Int} (h : Aside L U w w') (q : Lst w B k v zs) (hB : B ≤ L) (hw : B ≤ w.heap.size) : Lst w' B k v zs := q.below (h.below hB hw)
end
/-- A world that has grown out of w0 where a call writes aside, to blocks that w0 hadn't. -/
theorem ext_aside {w0 w w' : World} {L U : Nat} (h : Below w0.heap.size w0 w) (k : Aside L U w w') (hL : w0.heap.size ≤ L) : Below w0.heap.size w0 w' := h.trans (k.below hL h.size)
end

section
def IsByte (bs : List Int) : Prop := ∀ c ∈ bs, 0 ≤ c ∧ c ≤ 255
end
end Go.Proofs.YteiilmnehdbdiaaGreatDoor
