/- Series whose texts, or bytes, are one are one. -/
import Derived.Test.YteiilmnehdbdiaaGreatDoorLab
import Derived.Test.YteiilmnehdbdiaaGreatDoorLeb
namespace Go.Proofs.YteiilmnehdbdiaaGreatDoor
open Go.RowKit

theorem data_one {a b : ByteArray} (h : a.data.toList = b.data.toList) : a = b := ByteArray.ext (Array.toList_inj.1 h)
theorem labB_one {a b : Lab} (h : labB a = labB b) : a = b := by
  obtain ⟨h1, h2⟩ := Prod.mk.injEq .. ▸ h
  exact Prod.ext (data_one h1) (data_one h2)
theorem labBs_one : ∀ {x y : List Lab}, x.map labB = y.map labB → x = y
  | [], [], _ => rfl
  | [], _ :: _, h => by simp at h
  | _ :: _, [], h => by simp at h
  | a :: x, b :: y, h => by
    rw [List.map_cons, List.map_cons, List.cons.injEq] at h
    rw [labB_one h.1, labBs_one h.2]
theorem split_plain : ∀ {a b x y : List UInt8}, PlainB a → PlainB b → (∀ c ∈ x.head?, c = 123) → (∀ c ∈ y.head?, c = 123) → a ++ x = b ++ y → a = b ∧ x = y
  | [], [], _, _, _, _, _, _, h => ⟨rfl, h⟩
  | [], c :: b, x, y, _, hb, hx, _, h => by
    have h : x = c :: (b ++ y) := h
    subst h
    exact absurd (hx c rfl) (hb c (List.mem_cons_self ..)).2.2.2
  | c :: a, [], x, y, ha, _, _, hy, h => by
    have h : c :: (a ++ x) = y := h
    subst h
    exact absurd (hy c rfl) (ha c (List.mem_cons_self ..)).2.2.2
  | c :: a, d :: b, x, y, ha, hb, hx, hy, h => by
    rw [List.cons_append, List.cons_append, List.cons.injEq] at h
    obtain ⟨h1, h2⟩ := split_plain (fun e he => ha e (List.mem_cons_of_mem _ he)) (fun e he => hb e (List.mem_cons_of_mem _ he)) hx hy h.2
    exact ⟨by rw [h.1, h1], h2⟩
theorem labs_plain {ls : List Lab} (h : ∀ l ∈ ls, IsName l.1 ∧ IsVal l.2) : ∀ l ∈ ls.map labB, PlainB l.1 ∧ PlainB l.2 := fun l hl => by
  obtain ⟨m, hm, rfl⟩ := List.mem_map.1 hl
  exact ⟨name_plain (h m hm).1, val_plain (h m hm).2⟩
/-- The labels that a right series' text has. -/
theorem body_one {x y : List Lab} (hx : ∀ l ∈ x, IsName l.1 ∧ IsVal l.2) (hy : ∀ l ∈ y, IsName l.1 ∧ IsVal l.2) (h : bodyP (x.map labB) = bodyP (y.map labB)) : x = y := by
  have h1 := fold_body (x.map labB) [] (labs_plain hx)
  have h2 := fold_body (y.map labB) [] (labs_plain hy)
  rw [h, h2] at h1
  simp only [List.nil_append, Prod.mk.injEq, true_and] at h1
  exact (labBs_one h1).symm
theorem text_one {n m : ByteArray} {x y : List Lab} (hx : IsRight n x) (hy : IsRight m y) (h : fullS n x = fullS m y) : n = m ∧ x = y := by
  have h1 := congrArg (fun s : ByteArray => s.data.toList) h
  simp only [full_bytes] at h1
  obtain ⟨h2, h3⟩ := split_plain (name_plain hx.1) (name_plain hy.1) (by intro c hc; split at hc <;> simp at hc; exact hc.symm) (by intro c hc; split at hc <;> simp at hc; exact hc.symm) h1
  refine ⟨data_one h2, ?_⟩
  by_cases ex : x = []
  · by_cases ey : y = []
    · rw [ex, ey]
    · rw [if_pos ex, if_neg ey] at h3; cases h3
  · by_cases ey : y = []
    · rw [if_neg ex, if_pos ey] at h3; cases h3
    · rw [if_neg ex, if_neg ey, List.cons.injEq] at h3
      exact body_one hx.2.2.1 hy.2.2.1 h3.2

/-! bytes -/
def labsL : List Lab → List Int
  | [] => []
  | l :: t => txtL l.1 ++ (txtL l.2 ++ labsL t)
def bytesL (n : ByteArray) (ls : List Lab) : List Int := txtL n ++ (lebL ls.length ++ labsL ls)
theorem leb_cut {a b : Nat} {x y : List Int} (ha : a < 18446744073709551616) (hb : b < 18446744073709551616) (h : lebL a ++ x = lebL b ++ y) : a = b ∧ x = y := by
  have h1 := read_leb ha x
  rw [h, read_leb hb y, Prod.mk.injEq, Prod.mk.injEq] at h1
  exact ⟨by omega, h1.2.1.symm⟩
theorem txt_cut {a b : ByteArray} {x y : List Int} (ha : a.size ≤ 1000000) (hb : b.size ≤ 1000000) (h : txtL a ++ x = txtL b ++ y) : a = b ∧ x = y := by
  unfold txtL at h
  rw [List.append_assoc, List.append_assoc] at h
  obtain ⟨h1, h2⟩ := leb_cut (by omega) (by omega) h
  obtain ⟨h3, h4⟩ := List.append_inj h2 (by rw [strB_len, strB_len, h1])
  exact ⟨by rw [← bytS_strB a, h3, bytS_strB], h4⟩
theorem labs_cut : ∀ {x y : List Lab}, x.length = y.length → (∀ l ∈ x, l.1.size ≤ 1000000 ∧ l.2.size ≤ 1000000) → (∀ l ∈ y, l.1.size ≤ 1000000 ∧ l.2.size ≤ 1000000) → labsL x = labsL y → x = y
  | [], [], _, _, _, _ => rfl
  | [], _ :: _, h, _, _, _ => by simp at h
  | _ :: _, [], h, _, _, _ => by simp at h
  | a :: x, b :: y, hl, hx, hy, h => by
    unfold labsL at h
    obtain ⟨h1, h2⟩ := txt_cut (hx a (List.mem_cons_self ..)).1 (hy b (List.mem_cons_self ..)).1 h
    obtain ⟨h3, h4⟩ := txt_cut (hx a (List.mem_cons_self ..)).2 (hy b (List.mem_cons_self ..)).2 h2
    rw [show a = b from Prod.ext h1 h3, labs_cut (by simpa using hl) (fun l hl => hx l (List.mem_cons_of_mem _ hl)) (fun l hl => hy l (List.mem_cons_of_mem _ hl)) h4]
theorem bytes_one {n m : ByteArray} {x y : List Lab} (hx : IsRight n x) (hy : IsRight m y) (h : bytesL n x = bytesL m y) : n = m ∧ x = y := by
  unfold bytesL at h
  obtain ⟨h1, h2⟩ := txt_cut (Nat.le_trans hx.1.2.1 (by decide)) (Nat.le_trans hy.1.2.1 (by decide)) h
  obtain ⟨h3, h4⟩ := leb_cut (by have := hx.2.1; omega) (by have := hy.2.1; omega) h2
  exact ⟨h1, labs_cut h3 (fun l hl => ⟨Nat.le_trans (hx.2.2.1 l hl).1.2.1 (by decide), Nat.le_trans (hx.2.2.1 l hl).2.1 (by decide)⟩) (fun l hl => ⟨Nat.le_trans (hy.2.2.1 l hl).1.2.1 (by decide), Nat.le_trans (hy.2.2.1 l hl).2.1 (by decide)⟩) h4⟩
end Go.Proofs.YteiilmnehdbdiaaGreatDoor
