/- A label more makes another series; each label's value is got by its name. -/
import Derived.Test.YteiilmnehdbdiaaGreatDoorLabI
namespace Go.Proofs.YteiilmnehdbdiaaGreatDoor
open Go.RowKit

theorem makeE_error {n : ByteArray} {x : List Lab} (h : (makeE n x).2.2 ≠ 0) : (makeE n x).1 = ByteArray.empty ∧ (makeE n x).2.1 = [] := by
  unfold makeE at h ⊢
  split
  · exact ⟨rfl, rfl⟩
  · split
    · exact ⟨rfl, rfl⟩
    · split
      · exact ⟨rfl, rfl⟩
      · rename_i h1 h2 h3
        rw [if_neg h1, if_neg h2, if_neg h3] at h
        cases e : makeL [] x with
        | none => exact ⟨rfl, rfl⟩
        | some r => rw [e] at h; exact absurd rfl h
theorem makeE_kinds (n : ByteArray) (x : List Lab) : (makeE n x).2.2 = 0 ∨ ((makeE n x).2.2 = 18 ∧ ¬ (x.map (·.1)).Nodup) ∨ ((makeE n x).2.2 = 17 ∧ 8 < x.length) ∨ (makeE n x).2.2 = 10 := by
  unfold makeE
  split
  · exact Or.inr (Or.inr (Or.inr rfl))
  · split
    · rename_i h; exact Or.inr (Or.inr (Or.inl ⟨rfl, h⟩))
    · split
      · exact Or.inr (Or.inr (Or.inr rfl))
      · cases e : makeL [] x with
        | none => exact Or.inr (Or.inl ⟨rfl, by have := makeL_none List.Pairwise.nil e; simpa using this⟩)
        | some r => exact Or.inl rfl
/-- What is got of a series that was made. -/
theorem made_get {n : ByteArray} {x : List Lab} (h : (makeE n x).2.2 = 0) {l : Lab} (hl : l ∈ x) : getL (makeE n x).2.1 l.1 = some l.2 := by
  obtain ⟨h1, -, h3⟩ := makeE_right h
  exact getL_mem (sorted_nodup h1.2.2.2) (h3.mem_iff.2 hl)
theorem made_more {n : ByteArray} {x : List Lab} (h : (makeE n x).2.2 = 0) (l : Lab) :
    ((makeE n (x ++ [l])).2.2 = 0 ∧ getL (makeE n x).2.1 l.1 = none ∧ getL (makeE n (x ++ [l])).2.1 l.1 = some l.2 ∧ (makeE n (x ++ [l])).2.1.length = x.length + 1 ∧ ¬ ((makeE n x).1 = (makeE n (x ++ [l])).1 ∧ (makeE n x).2.1 = (makeE n (x ++ [l])).2.1)) ∨
    ((makeE n (x ++ [l])).2.2 = 18 ∧ ∃ v, getL (makeE n x).2.1 l.1 = some v) ∨ ((makeE n (x ++ [l])).2.2 = 17 ∧ x.length = 8) ∨ (makeE n (x ++ [l])).2.2 = 10 := by
  obtain ⟨h1, -, h3⟩ := makeE_right h
  have hx8 : x.length ≤ 8 := by have := h1.2.1; rw [h3.length_eq] at this; exact this
  have hnx : (x.map (·.1)).Nodup := (h3.map (·.1)).nodup_iff.1 (sorted_nodup h1.2.2.2)
  rcases makeE_kinds n (x ++ [l]) with k | ⟨k, hd⟩ | ⟨k, h8⟩ | k
  · obtain ⟨r1, -, r3⟩ := makeE_right k
    have hny : ((x ++ [l]).map (·.1)).Nodup := (r3.map (·.1)).nodup_iff.1 (sorted_nodup r1.2.2.2)
    have hlen : (makeE n (x ++ [l])).2.1.length = x.length + 1 := by rw [r3.length_eq, List.length_append]; rfl
    refine Or.inl ⟨k, ?_, made_get k (by simp), hlen, fun e => ?_⟩
    · refine getL_none.2 fun m hm he => ?_
      have hmx := h3.mem_iff.1 hm
      rw [List.map_append] at hny
      exact (List.nodup_append.1 hny).2.2 _ (List.mem_map.2 ⟨m, hmx, he⟩) _ (List.mem_map.2 ⟨l, List.mem_singleton.2 rfl, rfl⟩) rfl
    · have := congrArg List.length e.2
      rw [hlen, h3.length_eq] at this
      omega
  · refine Or.inr (Or.inl ⟨k, ?_⟩)
    by_cases hm : l.1 ∈ x.map (·.1)
    · obtain ⟨m, hmx, he⟩ := List.mem_map.1 hm
      have := made_get h hmx
      rw [he] at this
      exact ⟨_, this⟩
    · refine absurd ?_ hd
      rw [List.map_append, List.nodup_append]
      refine ⟨hnx, by simp, fun a ha b hb he => ?_⟩
      simp at hb
      subst hb
      subst he
      exact hm ha
  · refine Or.inr (Or.inr (Or.inl ⟨k, ?_⟩))
    rw [List.length_append] at h8
    have : [l].length = 1 := rfl
    omega
  · exact Or.inr (Or.inr (Or.inr k))
end Go.Proofs.YteiilmnehdbdiaaGreatDoor
