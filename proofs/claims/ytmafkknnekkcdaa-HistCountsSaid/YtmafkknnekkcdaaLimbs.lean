/- Numbers in limbs of 16 bits, the lowest first: what rows of limbs are worth. -/
import Derived.Test.YtmafkknnekkcdaaMem
namespace Go.Proofs.Ytmafkknnekkcdaa
open Go.RowKit

/-- What the first n limbs are worth. -/
def sumD (f : Nat → Int) : Nat → Int
  | 0 => 0
  | n + 1 => sumD f n + f n * 65536 ^ n
/-- The limb at a place, 0 above the highest. -/
def dig (xs : List Int) (j : Nat) : Int := xs.getD j 0
/-- What a row of limbs is worth. -/
def val (xs : List Int) : Int := sumD (dig xs) xs.length
/-- Each is a limb. -/
def Digs (xs : List Int) : Prop := ∀ d ∈ xs, 0 ≤ d ∧ d ≤ 65535
/-- The highest isn't 0. -/
def Norm (xs : List Int) : Prop := 0 < xs.length → dig xs (xs.length - 1) ≠ 0

theorem pow_pos (n : Nat) : (0 : Int) < 65536 ^ n := Int.pow_pos (by omega)
theorem pow_succ' (n : Nat) : (65536 : Int) ^ (n + 1) = 65536 * 65536 ^ n := by rw [Int.pow_succ, Int.mul_comm]
theorem pow_le {m n : Nat} (h : m ≤ n) : (65536 : Int) ^ m ≤ 65536 ^ n := by
  induction h with
  | refl => exact Int.le_refl _
  | step _ ih => rw [pow_succ']; have := pow_pos m; omega
theorem sumD_ext {f g : Nat → Int} : ∀ {n : Nat}, (∀ j, j < n → f j = g j) → sumD f n = sumD g n
  | 0, _ => rfl
  | n + 1, h => by rw [sumD, sumD, sumD_ext (fun j hj => h j (by omega)), h n (by omega)]
theorem sumD_more {f : Nat → Int} {m : Nat} : ∀ {n : Nat}, m ≤ n → (∀ j, m ≤ j → f j = 0) → sumD f n = sumD f m
  | 0, h, _ => by
    have e : m = 0 := by omega
    rw [e]
  | n + 1, h, hz => by
    by_cases e : m = n + 1
    · rw [e]
    · rw [sumD, hz n (by omega), sumD_more (by omega) hz]; omega
theorem dig_above {xs : List Int} {j : Nat} (h : xs.length ≤ j) : dig xs j = 0 := by
  unfold dig; rw [List.getD_eq_getElem?_getD, List.getElem?_eq_none h]; rfl
theorem dig_at {xs : List Int} {j : Nat} (h : j < xs.length) : dig xs j = xs[j] := by
  unfold dig; rw [List.getD_eq_getElem?_getD, List.getElem?_eq_getElem h]; rfl
theorem val_more {xs : List Int} {n : Nat} (h : xs.length ≤ n) : sumD (dig xs) n = val xs := sumD_more h fun _ hj => dig_above hj
theorem Digs.at_ {xs : List Int} (h : Digs xs) (j : Nat) : 0 ≤ dig xs j ∧ dig xs j ≤ 65535 := by
  by_cases hj : j < xs.length
  · rw [dig_at hj]; exact h _ (List.getElem_mem hj)
  · rw [dig_above (by omega)]; omega
theorem sumD_bd {f : Nat → Int} (h : ∀ j, 0 ≤ f j ∧ f j ≤ 65535) : ∀ n, 0 ≤ sumD f n ∧ sumD f n < 65536 ^ n
  | 0 => by simp [sumD]
  | n + 1 => by
    obtain ⟨a, b⟩ := sumD_bd h n
    have p := pow_pos n
    obtain ⟨c, d⟩ := h n
    have m0 : 0 ≤ f n * 65536 ^ n := Int.mul_nonneg c (by omega)
    have m1 : f n * 65536 ^ n ≤ 65535 * 65536 ^ n := Int.mul_le_mul_of_nonneg_right d (by omega)
    rw [sumD, pow_succ']
    omega
theorem Digs.bd {xs : List Int} (h : Digs xs) : 0 ≤ val xs ∧ val xs < 65536 ^ xs.length := sumD_bd h.at_ _
theorem sumD_le {f : Nat → Int} (h : ∀ j, 0 ≤ f j ∧ f j ≤ 65535) {m n : Nat} (hmn : m ≤ n) : sumD f m ≤ sumD f n := by
  induction hmn with
  | refl => exact Int.le_refl _
  | @step k _ ih =>
    rw [sumD]
    have := Int.mul_nonneg (h k).1 (Int.le_of_lt (pow_pos k))
    omega
/-- A row whose highest limb isn't 0 is worth as much as its length says. -/
theorem Norm.low {xs : List Int} (h : Norm xs) (hd : Digs xs) (hl : 0 < xs.length) : 65536 ^ (xs.length - 1) ≤ val xs := by
  have e : xs.length = (xs.length - 1) + 1 := by omega
  unfold val
  rw [e, sumD]
  simp only [Nat.add_sub_cancel]
  have b := sumD_bd hd.at_ (xs.length - 1)
  have c := hd.at_ (xs.length - 1)
  have n := h hl
  have m : 1 * 65536 ^ (xs.length - 1) ≤ dig xs (xs.length - 1) * 65536 ^ (xs.length - 1) := Int.mul_le_mul_of_nonneg_right (by omega) (Int.le_of_lt (pow_pos _))
  omega
theorem Norm.len {xs : List Int} (h : Norm xs) (hd : Digs xs) {L : Nat} (hv : val xs < 65536 ^ L) : xs.length ≤ L := by
  rcases Nat.lt_or_ge L xs.length with k | k
  · have a := h.low hd (by omega)
    have b := pow_le (m := L) (n := xs.length - 1) (by omega)
    omega
  · exact k
theorem Norm.zero {xs : List Int} (h : Norm xs) (hd : Digs xs) : val xs = 0 ↔ xs = [] := by
  constructor
  · intro hv
    have := h.len hd (L := 0) (by rw [hv]; decide)
    exact List.eq_nil_of_length_eq_zero (by omega)
  · intro e; subst e; rfl
theorem val_nil : val [] = 0 := rfl
theorem val_take (xs : List Int) {n : Nat} (h : n ≤ xs.length) : val (xs.take n) = sumD (dig xs) n := by
  unfold val
  rw [List.length_take, Nat.min_eq_left h]
  exact sumD_ext fun j hj => by unfold dig; simp [hj]
theorem val_snoc (xs : List Int) (d : Int) : val (xs ++ [d]) = val xs + d * 65536 ^ xs.length := by
  unfold val
  rw [List.length_append, List.length_singleton, sumD]
  have e1 : dig (xs ++ [d]) xs.length = d := by unfold dig; simp
  rw [e1]
  congr 1
  exact sumD_ext fun j hj => by unfold dig; simp [List.getElem?_append, hj]
theorem Digs.snoc {xs : List Int} (h : Digs xs) {d : Int} (h0 : 0 ≤ d) (h1 : d ≤ 65535) : Digs (xs ++ [d]) := by
  intro x hx
  rcases List.mem_append.1 hx with k | k
  · exact h x k
  · rw [List.mem_singleton.1 k]; exact ⟨h0, h1⟩
theorem Digs.nil : Digs [] := fun _ h => by cases h
theorem Digs.take {xs : List Int} (h : Digs xs) (n : Nat) : Digs (xs.take n) := fun d hd => h d (List.mem_of_mem_take hd)
/-- Rows are as great as their highest limb that is another one. -/
theorem sumD_lt {f g : Nat → Int} (hf : ∀ j, 0 ≤ f j ∧ f j ≤ 65535) (hg : ∀ j, 0 ≤ g j ∧ g j ≤ 65535) {k : Nat} (h : f k < g k) : ∀ {n : Nat}, k < n → (∀ j, k < j → j < n → f j = g j) → sumD f n < sumD g n
  | 0, hk, _ => by omega
  | n + 1, hk, he => by
    rw [sumD, sumD]
    by_cases e : k = n
    · subst e
      have a := sumD_bd hf k
      have b := sumD_bd hg k
      have m : (f k + 1) * 65536 ^ k ≤ g k * 65536 ^ k := Int.mul_le_mul_of_nonneg_right (by omega) (Int.le_of_lt (pow_pos _))
      rw [Int.add_mul] at m
      omega
    · rw [he n (by omega) (by omega)]
      have := sumD_lt hf hg h (n := n) (by omega) (fun j h1 h2 => he j h1 (by omega))
      omega
theorem dig_snoc_lt {xs : List Int} {d : Int} {j : Nat} (h : j < xs.length) : dig (xs ++ [d]) j = dig xs j := by
  unfold dig; simp [List.getElem?_append, h]
end Go.Proofs.Ytmafkknnekkcdaa
