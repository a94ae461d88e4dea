/- Labels cut in two: the slices that a cut gives, as sources of an append; a turned list is a permutation. -/
import Derived.Test.YteiilmnehdbdiaaGreatDoorAppendW
namespace Go.Proofs.YteiilmnehdbdiaaGreatDoor
open Go.RowKit

/-- The address behind the first k labels, as the model has it. -/
def cutA (A : Option Addr) (c k : Nat) : Option Addr := if c = k then A else A.map fun a => a.add (k * 2)
section
variable {w w' : World} {B n c k : Nat} {A : Option Addr} {gs : List Lab}
theorem Labs.head_src (h : Labs w B (.slice A n c) gs) (hk : k ≤ gs.length) (hw : ∀ p : Addr, p.block < B → w'.cell? p = w.cell? p) : SrcV w' A k (cellsB (gs.take k)) := by
  obtain ⟨A', c', e, _, hr⟩ := h
  injection e with e1 e2 e3
  subst e1
  intro hn
  obtain ⟨ad, ea, hb, hc⟩ := hr (by omega)
  refine ⟨ad, ea, fun j u hu => ?_⟩
  have hj := (List.getElem?_eq_some_iff.1 hu).1
  have hl : (gs.take k).length = k := by rw [List.length_take]; omega
  rw [cellsB_length, hl] at hj
  have hj2 : j / 2 < gs.length := by omega
  have hj3 : j / 2 < (gs.take k).length := by omega
  obtain ⟨k1, k2⟩ := cellsB_at (gs.take k) (j / 2) hj3
  obtain ⟨c1, c2⟩ := hc (j / 2) hj2
  have hg : (gs.take k)[j / 2] = gs[j / 2] := List.getElem_take ..
  rw [hg] at k1 k2
  rw [hw _ (by rw [block_of_add]; exact hb)]
  rcases (show j = j / 2 * 2 ∨ j = j / 2 * 2 + 1 by omega) with e | e <;> rw [e] at hu ⊢
  · rw [c1, ← hu, k1]
  · rw [c2, ← hu, k2]
theorem add_add (a : Addr) (i j : Nat) : (a.add i).add j = a.add (i + j) := by
  unfold Addr.add
  by_cases h1 : i = 0 <;> by_cases h2 : j = 0 <;> simp [h1, h2, Nat.add_assoc]
theorem Labs.tail_src (h : Labs w B (.slice A n c) gs) (hk : k ≤ gs.length) (hw : ∀ p : Addr, p.block < B → w'.cell? p = w.cell? p) : SrcV w' (cutA A c k) (gs.length - k) (cellsB (gs.drop k)) := by
  obtain ⟨A', c', e, hcap, hr⟩ := h
  injection e with e1 e2 e3
  subst e1; subst e3
  intro hn
  obtain ⟨ad, ea, hb, hc⟩ := hr (by omega)
  refine ⟨ad.add (k * 2), by unfold cutA; rw [if_neg (by omega), ea]; rfl, fun j u hu => ?_⟩
  have hj := (List.getElem?_eq_some_iff.1 hu).1
  have hl : (gs.drop k).length = gs.length - k := List.length_drop
  rw [cellsB_length, hl] at hj
  have hj3 : j / 2 < (gs.drop k).length := by omega
  obtain ⟨k1, k2⟩ := cellsB_at (gs.drop k) (j / 2) hj3
  obtain ⟨c1, c2⟩ := hc (k + j / 2) (by omega)
  have hg : (gs.drop k)[j / 2] = gs[k + j / 2]'(by omega) := List.getElem_drop ..
  rw [hg] at k1 k2
  rw [add_add, hw _ (by rw [block_of_add]; exact hb)]
  rcases (show j = j / 2 * 2 ∨ j = j / 2 * 2 + 1 by omega) with e | e <;> rw [e] at hu ⊢
  · rw [show k * 2 + j / 2 * 2 = (k + j / 2) * 2 by omega, c1, ← hu, k1]
  · rw [show k * 2 + (j / 2 * 2 + 1) = (k + j / 2) * 2 + 1 by omega, c2, ← hu, k2]
end
theorem turned_perm (x : List Lab) (k : Nat) : (x.drop k ++ x.take k).Perm x := by
  have h : (x.drop k ++ x.take k).Perm (x.take k ++ x.drop k) := List.perm_append_comm
  rwa [List.take_append_drop] at h
end Go.Proofs.YteiilmnehdbdiaaGreatDoor
