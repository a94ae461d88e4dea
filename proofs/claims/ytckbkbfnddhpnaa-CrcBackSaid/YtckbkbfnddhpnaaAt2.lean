/- A variable of two cells. -/
import Derived.Test.YtckbkbfnddhpnaaStep
namespace Go.Proofs.Ytckbkbfnddhpnaa
open Go.RowKit

/-- Block b holds two values, and they may be written. -/
structure At2 (w : World) (b : Nat) (x y : Value) : Prop where
  c0 : w.cell? ⟨b, 0, none⟩ = some x
  c1 : w.cell? ⟨b, 1, none⟩ = some y
  f0 : w.frozen? ⟨b, 0, none⟩ = false
  f1 : w.frozen? ⟨b, 1, none⟩ = false
section
variable {w w1 : World} {b : Nat} {x y : Value}
theorem At2.lt (a : At2 w b x y) : b < w.heap.size := World.block_lt_of_cell? _ _ a.c0
theorem At2.below (a : At2 w b x y) (hb : Below w.heap.size w w1) : At2 w1 b x y := by
  obtain ⟨hc, hf⟩ := bcell hb
  have := a.lt
  exact ⟨(hc _ _ this).trans a.c0, (hc _ _ this).trans a.c1, (hf _ _ this).trans a.f0, (hf _ _ this).trans a.f1⟩
theorem At2.drew (a : At2 w b x y) : At2 w.drew b x y := ⟨a.c0, a.c1, a.f0, a.f1⟩
theorem At2.drewN (a : At2 w b x y) (n : Nat) : At2 (w.drewN n) b x y := ⟨a.c0, a.c1, a.f0, a.f1⟩
theorem At2.alloc (a : At2 w b x y) (o : Obj) : At2 (w.alloc o) b x y := a.below (below_new w o)
theorem At2.other (a : At2 w b x y) {b' : Nat} (hb : b ≠ b') (i : Nat) (u : Value) : At2 (w.setCell ⟨b', i, none⟩ u) b x y := by
  have e : ∀ j, (w.setCell ⟨b', i, none⟩ u).cell? ⟨b, j, none⟩ = w.cell? ⟨b, j, none⟩ := fun j => by
    rw [World.cell?_setCell_other _ _ _ _ (fun e => hb (by injection e with e1; exact e1.symm))]
  exact ⟨(e 0).trans a.c0, (e 1).trans a.c1, by simpa using a.f0, by simpa using a.f1⟩
theorem At2.set0 (a : At2 w b x y) (x' : Value) : At2 (w.setCell ⟨b, 0, none⟩ x') b x' y :=
  ⟨World.cell?_setCell_same _ _ _ a.c0, by rw [World.cell?_setCell_other _ _ _ _ (by simp)]; exact a.c1, by simpa using a.f0, by simpa using a.f1⟩
theorem At2.set1 (a : At2 w b x y) (y' : Value) : At2 (w.setCell ⟨b, 1, none⟩ y') b x y' :=
  ⟨by rw [World.cell?_setCell_other _ _ _ _ (by simp)]; exact a.c0, World.cell?_setCell_same _ _ _ a.c1, by simpa using a.f0, by simpa using a.f1⟩
end
theorem At2.new (w : World) (x y : Value) (t : TypeId) : At2 (w.alloc (.cells #[x, y] t)) w.heap.size x y := by
  have fz : ∀ i, (w.alloc (.cells #[x, y] t)).frozen? ⟨w.heap.size, i, none⟩ = false := fun i => by
    unfold World.frozen?
    show (match (w.alloc (.cells #[x, y] t)).heap[w.heap.size]? with | some (.cells _ _ (lo, hi)) => decide (lo ≤ i) && decide (i < hi) | _ => false) = false
    rw [heap_alloc_new]; simp
  exact ⟨World.cell?_alloc_new (w := w) _ _ 0, World.cell?_alloc_new (w := w) _ _ 1, fz 0, fz 1⟩
theorem grew1 (w : World) (o : Obj) : Below w.heap.size w (w.alloc o) := (Below.refl _ _).alloc (Nat.le_refl _) o
theorem grew2 (w : World) (o p : Obj) : Below w.heap.size w ((w.alloc o).alloc p) := (grew1 w o).alloc (by simp) p
theorem grew3 (w : World) (o p q : Obj) : Below w.heap.size w (((w.alloc o).alloc p).alloc q) := (grew2 w o p).alloc (by simp; omega) q
end Go.Proofs.Ytckbkbfnddhpnaa
