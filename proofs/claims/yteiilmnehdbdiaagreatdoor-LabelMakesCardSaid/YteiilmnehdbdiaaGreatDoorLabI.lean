/- A label put in its place among sorted ones, from the end downwards; what Make answers. -/
import Derived.Test.YteiilmnehdbdiaaGreatDoorLab
namespace Go.Proofs.YteiilmnehdbdiaaGreatDoor
open Go.RowKit

def bub (acc : List Lab) (x : Lab) (k : Nat) : List Lab := acc.take k ++ x :: acc.drop k
section
variable {acc : List Lab} {x : Lab} {k : Nat}
theorem bub_len (h : k ≤ acc.length) : (bub acc x k).length = acc.length + 1 := by
  unfold bub
  rw [List.length_append, List.length_cons, List.length_take, List.length_drop]; omega
theorem bub_top (acc : List Lab) (x : Lab) : bub acc x acc.length = acc ++ [x] := by
  unfold bub
  rw [List.take_length, List.drop_length]
theorem bub_here (h : k < (bub acc x k).length) (hk : k ≤ acc.length) : (bub acc x k)[k] = x := by
  unfold bub at h ⊢
  rw [List.getElem_append_right (by rw [List.length_take]; omega)]
  have e : k - (acc.take k).length = 0 := by rw [List.length_take]; omega
  simp only [e]
  rfl
theorem bub_prev (h : k < (bub acc x (k + 1)).length) (hk : k < acc.length) : (bub acc x (k + 1))[k] = acc[k] := by
  unfold bub at h ⊢
  rw [List.getElem_append_left (by rw [List.length_take]; omega), List.getElem_take]
theorem bub_swap (hk : k < acc.length) : ((bub acc x (k + 1)).set k x).set (k + 1) acc[k] = bub acc x k := by
  apply List.ext_getElem
  · rw [List.length_set, List.length_set, bub_len (by omega), bub_len (by omega)]
  · intro i h1 h2
    rw [List.length_set, List.length_set] at h1
    rw [List.getElem_set, List.getElem_set]
    by_cases e1 : k + 1 = i
    · subst e1
      rw [if_pos rfl]
      unfold bub at h2 ⊢
      rw [List.getElem_append_right (by rw [List.length_take]; omega)]
      have e : k + 1 - (acc.take k).length = 1 := by rw [List.length_take]; omega
      simp only [e]
      rw [List.getElem_cons_succ, List.getElem_drop]
      rfl
    · rw [if_neg e1]
      by_cases e2 : k = i
      · subst e2
        rw [if_pos rfl, bub_here h2 (by omega)]
      · rw [if_neg e2]
        unfold bub at h1 h2 ⊢
        by_cases h : i < k
        · rw [List.getElem_append_left (by rw [List.length_take]; omega), List.getElem_append_left (by rw [List.length_take]; omega), List.getElem_take, List.getElem_take]
        · rw [List.getElem_append_right (by rw [List.length_take]; omega), List.getElem_append_right (by rw [List.length_take]; omega)]
          have f1 : i - (acc.take (k + 1)).length = (i - k - 2) + 1 := by rw [List.length_take]; omega
          have f2 : i - (acc.take k).length = (i - k - 2) + 1 + 1 := by rw [List.length_take]; omega
          simp only [f1, f2]
          rw [List.getElem_cons_succ, List.getElem_cons_succ, List.getElem_drop, List.getElem_drop]
          congr 1
          omega
theorem bub_perm (acc : List Lab) (x : Lab) (k : Nat) : (bub acc x k).Perm (x :: acc) := by
  unfold bub
  refine List.perm_middle.trans ?_
  rw [List.take_append_drop]
theorem bub_sorted (hs : Sorted acc) (hd : ∀ y ∈ acc.drop k, ltS x.1 y.1 = true) (ht : ∀ i (h : i < acc.length), i + 1 = k → ltS acc[i].1 x.1 = true) (hk : k ≤ acc.length) : Sorted (bub acc x k) := by
  have hall : ∀ y ∈ acc.take k, ltS y.1 x.1 = true := by
    intro y hy
    obtain ⟨i, hi, rfl⟩ := List.getElem_of_mem hy
    rw [List.length_take] at hi
    rw [List.getElem_take]
    by_cases e : i + 1 = k
    · exact ht i (by omega) e
    · exact ltS_trans (List.pairwise_iff_getElem.1 hs i (k - 1) (by omega) (by omega) (by omega)) (ht (k - 1) (by omega) (by omega))
  unfold Sorted bub
  rw [List.pairwise_append]
  refine ⟨hs.sublist (List.take_sublist _ _), List.pairwise_cons.2 ⟨hd, hs.sublist (List.drop_sublist _ _)⟩, fun a ha b hb => ?_⟩
  rcases List.mem_cons.1 hb with rfl | hb
  · exact hall a ha
  · exact ltS_trans (hall a ha) (hd b hb)
theorem bub_done (hs : Sorted acc) (hd : ∀ y ∈ acc.drop k, ltS x.1 y.1 = true) (ht : ∀ i (h : i < acc.length), i + 1 = k → ltS acc[i].1 x.1 = true) (hk : k ≤ acc.length) : insL x acc = some (bub acc x k) := by
  have hb := bub_sorted hs hd ht hk
  cases e : insL x acc with
  | none =>
    obtain ⟨y, hy, hye⟩ := (insL_none hs).1 e
    have hn := sorted_nodup hb
    rw [((bub_perm acc x k).map (·.1)).nodup_iff, List.map_cons] at hn
    exact absurd (List.mem_map.2 ⟨y, hy, hye⟩) (List.nodup_cons.1 hn).1
  | some r =>
    obtain ⟨h1, h2⟩ := insL_some hs e
    rw [List.Perm.eq_of_pairwise (fun a b _ _ h1 h2 => by rw [ltS_not h1] at h2; cases h2) h1 hb (h2.trans (bub_perm acc x k).symm)]
theorem bub_none (hs : Sorted acc) (h : k < acc.length) (he : acc[k].1 = x.1) : insL x acc = none := (insL_none hs).2 ⟨_, List.getElem_mem h, he⟩
theorem bub_down (h : k < acc.length) (hd : ∀ y ∈ acc.drop (k + 1), ltS x.1 y.1 = true) (h1 : ltS x.1 acc[k].1 = true) : ∀ y ∈ acc.drop k, ltS x.1 y.1 = true := fun y hy => by
  rw [List.drop_eq_getElem_cons h] at hy
  rcases List.mem_cons.1 hy with rfl | hy
  · exact h1
  · exact hd y hy
end

def madeO (n : ByteArray) : Option (List Lab) → ByteArray × List Lab × Int
  | none => (ByteArray.empty, [], 18)
  | some r => (n, r, 0)
/-- What Make answers: a name, labels, an error. -/
def makeE (n : ByteArray) (ls : List Lab) : ByteArray × List Lab × Int :=
  if ¬ IsName n then (ByteArray.empty, [], 10) else if 8 < ls.length then (ByteArray.empty, [], 17)
  else if ¬ ∀ l ∈ ls, IsName l.1 ∧ IsVal l.2 then (ByteArray.empty, [], 10)
  else madeO n (makeL [] ls)
theorem makeE_right {n : ByteArray} {ls : List Lab} (h : (makeE n ls).2.2 = 0) : IsRight (makeE n ls).1 (makeE n ls).2.1 ∧ (makeE n ls).1 = n ∧ (makeE n ls).2.1.Perm ls := by
  unfold makeE at h ⊢
  by_cases h1 : IsName n
  · rw [if_neg (not_not_intro h1)] at h ⊢
    by_cases h2 : 8 < ls.length
    · rw [if_pos h2] at h; exact absurd h (by decide)
    · rw [if_neg h2] at h ⊢
      by_cases h3 : ∀ l ∈ ls, IsName l.1 ∧ IsVal l.2
      · rw [if_neg (not_not_intro h3)] at h ⊢
        cases e : makeL [] ls with
        | none => rw [e] at h; exact absurd (show (18 : Int) = 0 from h) (by decide)
        | some r =>
          obtain ⟨k1, k2⟩ := makeL_some List.Pairwise.nil e
          rw [List.nil_append] at k2
          show IsRight n r ∧ n = n ∧ r.Perm ls
          exact ⟨⟨h1, by rw [k2.length_eq]; omega, fun l hl => h3 l (k2.mem_iff.1 hl), k1⟩, rfl, k2⟩
      · rw [if_pos h3] at h; exact absurd h (by decide)
  · rw [if_pos h1] at h; exact absurd h (by decide)
/-- Labels of a right series, in whatever order they come. -/
theorem makeE_one {n : ByteArray} {ls ls' : List Lab} (h : IsRight n ls) (hp : ls'.Perm ls) : makeE n ls' = (n, ls, 0) := by
  unfold makeE
  rw [if_neg (not_not_intro h.1), if_neg (by rw [hp.length_eq]; have := h.2.1; omega), if_neg (not_not_intro fun l hl => h.2.2.1 l (hp.mem_iff.1 hl)), makeL_one h.2.2.2 hp]
  rfl
end Go.Proofs.YteiilmnehdbdiaaGreatDoor
