/- Rows of numbers that the call itself made: one number is set anew. -/
import Derived.Test.YtckbkbfnddhpnaaOwn
import Derived.Laws.OwnMore
namespace Go.Proofs.Ytckbkbfnddhpnaa
open Go.RowKit

section
variable {t : TypeId} {k : IntKind} {w : World} {B g n c : Nat} {v : Value} {xs : List Int}
theorem Owned.form (h : Owned t k w B v xs) (hn : 0 < xs.length) : ∃ g c, v = .slice (some ⟨g, 0, none⟩) xs.length c ∧ B ≤ g ∧ g < w.heap.size := by
  have hlt := World.ownsRow.lt h
  rcases h.2 with ⟨_, h0⟩ | ⟨g, c, cur, rfl, hb, _⟩
  · omega
  · exact ⟨g, c, rfl, hb, (hlt g rfl).2⟩
theorem Owned.slots (h : Owned t k w B (.slice (some ⟨g, 0, none⟩) n c) xs) : n = xs.length := by
  obtain ⟨A, c', e⟩ := h.val
  injection e
theorem Owned.at_ (h : Owned t k w B (.slice (some ⟨g, 0, none⟩) n c) xs) {j : Nat} (hj : j < xs.length) : w.cell? ⟨g, j, none⟩ = some (.int k xs[j]) ∧ w.frozen? ⟨g, j, none⟩ = false := by
  obtain rfl := h.slots
  refine ⟨?_, World.ownsRow.frozenAt h j⟩
  rw [World.ownsRow.cellAt h j (by omega)]
  simp [hj]
theorem Owned.set_ (h : Owned t k w B (.slice (some ⟨g, 0, none⟩) n c) xs) (j : Nat) (z : Int) : Owned t k (w.setCell ⟨g, j, none⟩ (.int k z)) B (.slice (some ⟨g, 0, none⟩) n c) (xs.set j z) ∧ Below B w (w.setCell ⟨g, j, none⟩ (.int k z)) := by
  have hlt := World.ownsRow.lt h g rfl
  obtain rfl := h.slots
  refine ⟨?_, (Below.refl B w).setCell hlt.1 _⟩
  unfold Owned
  rw [List.length_set, List.map_set]
  exact (World.ownsRow.stored h j _).1
/-- Another row of one's own, in another block. -/
theorem Owned.other {g' : Nat} (h : Owned t k w B v xs) (hb : v.ownBlock ≠ some g') (j : Nat) (u : Value) : Owned t k (w.setCell ⟨g', j, none⟩ u) B v xs := by
  refine ⟨h.1, ?_⟩
  rcases h.2 with h0 | ⟨g, cap, cur, rfl, hg, hh, h2⟩
  · exact .inl h0
  · refine .inr ⟨g, cap, cur, rfl, hg, (heap_setCell_other w ⟨g', j, none⟩ g u (fun e => hb (by simp [Value.ownBlock, e]))).trans hh, h2⟩
end
end Go.Proofs.Ytckbkbfnddhpnaa
