/- Bits of a row of limbs; a quotient made bit by bit. -/
import Derived.Test.YtmafkknnekkcdaaLimbs
namespace Go.Proofs.Ytmafkknnekkcdaa
open Go.RowKit

theorem sumD_split (f : Nat → Int) (t : Nat) : ∀ n, t < n → ∃ R, sumD f n = sumD f t + 65536 ^ t * (f t + 65536 * R)
  | 0, h => by omega
  | n + 1, h => by
    by_cases e : t = n
    · subst e; exact ⟨0, by rw [sumD, Int.mul_comm (f t)]; simp⟩
    · obtain ⟨R, hR⟩ := sumD_split f t n (by omega)
      refine ⟨R + f n * 65536 ^ (n - t - 1), ?_⟩
      have e2 : (65536 : Int) ^ n = 65536 ^ t * (65536 * 65536 ^ (n - t - 1)) := by
        rw [← pow_succ', ← Int.pow_add]; congr 1; omega
      rw [sumD, hR, e2]
      have e3 : f n * (65536 ^ t * (65536 * 65536 ^ (n - t - 1))) = 65536 ^ t * (65536 * (f n * 65536 ^ (n - t - 1))) := by
        rw [Int.mul_left_comm, Int.mul_left_comm (f n)]
      rw [e3]
      simp only [Int.mul_add]
      omega
theorem pow16 (t : Nat) : (2 : Int) ^ (16 * t) = 65536 ^ t := by
  rw [Int.pow_mul]; congr 1
theorem bit_digit (d R : Int) (u : Nat) (hu : u < 16) : (d + 65536 * R) / 2 ^ u % 2 = d / 2 ^ u % 2 := by
  have h : u = 0 ∨ u = 1 ∨ u = 2 ∨ u = 3 ∨ u = 4 ∨ u = 5 ∨ u = 6 ∨ u = 7 ∨ u = 8 ∨ u = 9 ∨ u = 10 ∨ u = 11 ∨ u = 12 ∨ u = 13 ∨ u = 14 ∨ u = 15 := by omega
  rcases h with rfl | rfl | rfl | rfl | rfl | rfl | rfl | rfl | rfl | rfl | rfl | rfl | rfl | rfl | rfl | rfl <;> omega
/-- A number's bit is its limb's. -/
theorem bit_at {xs : List Int} (h : Digs xs) {i : Nat} (hi : i / 16 < xs.length) : val xs / 2 ^ i % 2 = dig xs (i / 16) / 2 ^ (i % 16) % 2 := by
  obtain ⟨R, hR⟩ := sumD_split (dig xs) (i / 16) xs.length hi
  have b := sumD_bd h.at_ (i / 16)
  have e : (2 : Int) ^ i = 65536 ^ (i / 16) * 2 ^ (i % 16) := by
    rw [← pow16, ← Int.pow_add]; congr 1; omega
  unfold val
  rw [hR, e, ← Int.ediv_ediv_of_nonneg (Int.le_of_lt (pow_pos _)), Int.add_mul_ediv_left _ _ (by have := pow_pos (i / 16); omega), Int.ediv_eq_zero_of_lt b.1 b.2, Int.zero_add]
  exact bit_digit _ _ _ (by omega)

/-- What is so of a quotient and a rest when j bits are still to come. -/
structure Dividing (m n : Int) (j : Nat) (q r : Int) : Prop where
  q : q = m / 2 ^ j / n
  r : r = m / 2 ^ j % n
theorem two_step (m : Int) (j : Nat) : m / 2 ^ j = 2 * (m / 2 ^ (j + 1)) + m / 2 ^ j % 2 := by
  have e : m / 2 ^ (j + 1) = m / 2 ^ j / 2 := by
    rw [Int.pow_succ, Int.ediv_ediv_of_nonneg (Int.le_of_lt (Int.pow_pos (by omega)))]
  rw [e]; omega
theorem Dividing.low {m n q r : Int} {j : Nat} (h : Dividing m n (j + 1) q r) (hn : 0 < n) (hl : r + r + m / 2 ^ j % 2 < n) : Dividing m n j (q + q) (r + r + m / 2 ^ j % 2) := by
  obtain ⟨hq, hr⟩ := h
  have e := two_step m j
  generalize m / 2 ^ (j + 1) = M at *
  have hM := Int.mul_ediv_add_emod M n
  rw [← hq, ← hr] at hM
  have r0 : 0 ≤ r := by rw [hr]; exact Int.emod_nonneg _ (by omega)
  generalize hb : m / 2 ^ j % 2 = b at *
  have b0 : 0 ≤ b := by omega
  have e2 : m / 2 ^ j = (r + r + b) + n * (q + q) := by rw [Int.mul_add]; omega
  constructor
  · rw [e2, Int.add_mul_ediv_left _ _ (by omega), Int.ediv_eq_zero_of_lt (by omega) hl]; omega
  · rw [e2, Int.add_mul_emod_self_left, Int.emod_eq_of_lt (by omega) hl]
theorem Dividing.high {m n q r : Int} {j : Nat} (h : Dividing m n (j + 1) q r) (hn : 0 < n) (hl : n ≤ r + r + m / 2 ^ j % 2) : Dividing m n j (q + q + 1) (r + r + m / 2 ^ j % 2 - n) := by
  obtain ⟨hq, hr⟩ := h
  have e := two_step m j
  generalize m / 2 ^ (j + 1) = M at *
  have hM := Int.mul_ediv_add_emod M n
  rw [← hq, ← hr] at hM
  have r0 : 0 ≤ r := by rw [hr]; exact Int.emod_nonneg _ (by omega)
  have r1 : r < n := by rw [hr]; exact Int.emod_lt_of_pos _ hn
  generalize hb : m / 2 ^ j % 2 = b at *
  have b0 : 0 ≤ b := by omega
  have b1 : b ≤ 1 := by omega
  have e2 : m / 2 ^ j = (r + r + b - n) + n * (q + q + 1) := by rw [Int.mul_add, Int.mul_add]; omega
  constructor
  · rw [e2, Int.add_mul_ediv_left _ _ (by omega), Int.ediv_eq_zero_of_lt (by omega) (by omega)]; omega
  · rw [e2, Int.add_mul_emod_self_left, Int.emod_eq_of_lt (by omega) (by omega)]
theorem Dividing.bd {m n q r : Int} {j : Nat} (h : Dividing m n j q r) (hm : 0 ≤ m) (hn : 0 < n) : 0 ≤ q ∧ q ≤ m ∧ 0 ≤ r ∧ r < n := by
  obtain ⟨hq, hr⟩ := h
  have p : (0 : Int) < 2 ^ j := Int.pow_pos (by omega)
  have a := Int.ediv_nonneg hm (Int.le_of_lt p)
  have b := Int.ediv_le_self (2 ^ j) hm
  refine ⟨by rw [hq]; exact Int.ediv_nonneg a (by omega), by rw [hq]; have := Int.ediv_le_self n a; omega, by rw [hr]; exact Int.emod_nonneg _ (by omega), by rw [hr]; exact Int.emod_lt_of_pos _ hn⟩
theorem Dividing.start {m n : Int} {j : Nat} (hm : 0 ≤ m) (h : m < 2 ^ j) : Dividing m n j 0 0 := by
  constructor <;> rw [Int.ediv_eq_zero_of_lt hm h] <;> simp
theorem Dividing.ends {m n q r : Int} (h : Dividing m n 0 q r) : q = m / n ∧ r = m % n := by
  obtain ⟨hq, hr⟩ := h
  simp at hq hr
  exact ⟨hq, hr⟩
end Go.Proofs.Ytmafkknnekkcdaa
