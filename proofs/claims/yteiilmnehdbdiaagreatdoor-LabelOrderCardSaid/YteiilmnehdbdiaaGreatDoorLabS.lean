/- A text parsed as a series: what is left of it when it is one. -/
import Derived.Test.YteiilmnehdbdiaaGreatDoorLabQ
namespace Go.Proofs.YteiilmnehdbdiaaGreatDoor
open Go.RowKit

theorem split_sign : ∀ {a b x y : List UInt8}, (∀ c ∈ a, c ≠ 123) → (∀ c ∈ b, c ≠ 123) → (∀ c ∈ x.head?, c = 123) → (∀ c ∈ y.head?, c = 123) → a ++ x = b ++ y → a = b ∧ x = y
  | [], [], _, _, _, _, _, _, h => ⟨rfl, h⟩
  | [], c :: b, x, y, _, hb, hx, _, h => by
    have h : x = c :: (b ++ y) := h
    subst h
    exact absurd (hx c rfl) (hb c (List.mem_cons_self ..))
  | c :: a, [], x, y, ha, _, _, hy, h => by
    have h : c :: (a ++ x) = y := h
    subst h
    exact absurd (hy c rfl) (ha c (List.mem_cons_self ..))
  | c :: a, d :: b, x, y, ha, hb, hx, hy, h => by
    rw [List.cons_append, List.cons_append, List.cons.injEq] at h
    obtain ⟨h1, h2⟩ := split_sign (fun e he => ha e (List.mem_cons_of_mem _ he)) (fun e he => hb e (List.mem_cons_of_mem _ he)) hx hy h.2
    exact ⟨by rw [h.1, h1], h2⟩
/-- A text without the sign is a series without labels, if it is one. -/
theorem par_plain {t n : ByteArray} {x : List Lab} (ht : ∀ c ∈ t.data.toList, c ≠ 123) (h : fullS n x = t) : n = t ∧ x = [] := by
  have h1 := full_bytes n x
  rw [h] at h1
  by_cases hx : x = []
  · rw [if_pos hx, List.append_nil] at h1
    exact ⟨(data_one h1).symm, hx⟩
  · rw [if_neg hx] at h1
    exact absurd rfl (ht 123 (by rw [h1]; simp))
/-- A text with the sign: its name is what stands before it, its labels are what the fold says. -/
theorem par_labels {t n : ByteArray} {x acc : List Lab} {a r1 r2 wd nm : List UInt8} (ht : t.data.toList = a ++ 123 :: (r1 ++ r2)) (ha : ∀ c ∈ a, c ≠ 123) (hf : r1.foldl stepP ([], [], []) = (wd, nm, acc.map labB)) (hend : r2 = [] ∨ 8 < acc.length)
    (hr : IsRight n x) (h : fullS n x = t) : n.data.toList = a ∧ x = acc := by
  have h1 := full_bytes n x
  rw [h, ht] at h1
  obtain ⟨h2, h3⟩ := split_sign ha (fun c hc => (name_plain hr.1 c hc).2.2.2) (by intro c hc; simp at hc; exact hc.symm) (by intro c hc; split at hc <;> simp at hc; exact hc.symm) h1
  refine ⟨h2.symm, ?_⟩
  by_cases hx : x = []
  · rw [if_pos hx] at h3; cases h3
  · rw [if_neg hx, List.cons.injEq] at h3
    have hb := fold_body (x.map labB) [] (labs_plain hr.2.2.1)
    rw [← h3.2, List.foldl_append, hf, List.nil_append] at hb
    rcases hend with rfl | hm
    · rw [List.foldl_nil] at hb
      simp only [Prod.mk.injEq] at hb
      exact (labBs_one hb.2.2).symm
    · have := fold_rises r2 (wd, nm, acc.map labB)
      rw [hb] at this
      simp at this
      have := hr.2.1
      omega
theorem full_some {n : ByteArray} {x : List Lab} (hr : IsRight n x) : fullS n x ≠ ByteArray.empty := fun h => by
  have h1 := full_bytes n x
  rw [h] at h1
  have : n.data.toList.length = n.size := by simp
  have h2 := congrArg List.length h1
  rw [List.length_append] at h2
  have := hr.1.1
  simp at h2
  omega
theorem empty_list : (ByteArray.empty).toList = [] := by rw [ByteArray.toList_eq]; rfl
theorem textS_one {n t : ByteArray} {x : List Lab} (h : textS n x = t) (ht : t ≠ ByteArray.empty) : IsRight n x ∧ fullS n x = t := by
  by_cases hr : IsRight n x
  · exact ⟨hr, by rw [← h]; exact (if_pos hr).symm⟩
  · exact absurd (h.symm.trans (if_neg hr)) ht

/-! one byte more -/
theorem stepP_eq (wd nm : List UInt8) (out : List LabB) : stepP (wd, nm, out) 61 = ([], wd, out) := rfl
theorem stepP_end (wd nm : List UInt8) (out : List LabB) {c : UInt8} (hc : c = 44 ∨ c = 125) : stepP (wd, nm, out) c = ([], [], out ++ [(nm, wd)]) := by
  unfold stepP
  rw [if_neg (by rcases hc with rfl | rfl <;> decide), if_pos hc]
theorem stepP_other (wd nm : List UInt8) (out : List LabB) {c : UInt8} (h1 : c ≠ 61) (h2 : c ≠ 44) (h3 : c ≠ 125) : stepP (wd, nm, out) c = (wd ++ [c], nm, out) := by
  unfold stepP
  rw [if_neg h1, if_neg (by simp [h2, h3])]
/-- The bytes from a up to i, and one more. -/
def midB (t : ByteArray) (a i : Nat) : List UInt8 := (t.data.toList.take i).drop a
theorem midB_next {t : ByteArray} {a i : Nat} (h : i < t.size) (ha : a ≤ i) : midB t a (i + 1) = midB t a i ++ [t[i]] := by
  unfold midB
  have hl : i < t.data.toList.length := by simpa using h
  rw [List.take_succ_eq_append_getElem hl, List.drop_append_of_le_length (by rw [List.length_take]; omega)]
  rfl
theorem midB_nil (t : ByteArray) (a : Nat) : midB t a a = [] := by
  unfold midB
  rw [List.drop_eq_nil_iff, List.length_take]; omega
theorem midB_all {t : ByteArray} {a i : Nat} (h : a < t.size) (hs : t[a] = 123) (hi : a + 1 ≤ i) : t.data.toList = t.data.toList.take a ++ 123 :: (midB t (a + 1) i ++ t.data.toList.drop i) := by
  have hl : a < t.data.toList.length := by simpa using h
  have h1 : t.data.toList[a] = 123 := hs
  have h2 : midB t (a + 1) i ++ t.data.toList.drop i = t.data.toList.drop (a + 1) := by
    unfold midB
    rw [List.drop_take, show t.data.toList.drop i = (t.data.toList.drop (a + 1)).drop (i - (a + 1)) by rw [List.drop_drop]; congr 1; omega, List.take_append_drop]
  rw [h2, ← h1, ← List.drop_eq_getElem_cons hl, List.take_append_drop]
theorem extract_pre (t : ByteArray) (k : Nat) : (t.extract 0 k).data.toList = t.data.toList.take k := by simp
theorem extract_one (t : ByteArray) {i : Nat} (h : i < t.size) : (t.extract i (i + 1)).data.toList = [t[i]] := by
  have hl : i < t.data.toList.length := by simpa using h
  have e : (t.extract i (i + 1)).data.toList = (t.data.toList.take (i + 1)).drop i := by
    simp
    rw [List.drop_take]
    congr 1
    omega
  rw [e, List.take_succ_eq_append_getElem hl, List.drop_append_of_le_length (by rw [List.length_take]; omega), List.drop_eq_nil_of_le (by rw [List.length_take]; omega)]
  rfl
end Go.Proofs.YteiilmnehdbdiaaGreatDoor
