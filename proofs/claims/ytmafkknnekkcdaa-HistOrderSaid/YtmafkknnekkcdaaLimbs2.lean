/- Rows of limbs: a limb that is set; the rounds of a product. -/
import Derived.Test.YtmafkknnekkcdaaLimbs
namespace Go.Proofs.Ytmafkknnekkcdaa
open Go.RowKit

theorem dig_set {zs : List Int} {p : Nat} (h : p < zs.length) (d : Int) (j : Nat) : dig (zs.set p d) j = if j = p then d else dig zs j := by
  unfold dig
  by_cases e : j = p
  · subst e; simp [h]
  · simp [e, Ne.symm e]
theorem sumD_set {zs : List Int} {p : Nat} (h : p < zs.length) (d : Int) : ∀ n, sumD (dig (zs.set p d)) n = sumD (dig zs) n + if p < n then (d - dig zs p) * 65536 ^ p else 0
  | 0 => by simp [sumD]
  | n + 1 => by
    rw [sumD, sumD, sumD_set h d n, dig_set h]
    by_cases e : n = p
    · subst e
      rw [if_pos rfl, if_neg (by omega), if_pos (by omega), Int.sub_mul]; omega
    · rw [if_neg e]
      by_cases l : p < n
      · rw [if_pos l, if_pos (by omega)]; omega
      · rw [if_neg l, if_neg (by omega)]; omega
theorem val_set {zs : List Int} {p : Nat} (h : p < zs.length) (d : Int) : val (zs.set p d) = val zs + (d - dig zs p) * 65536 ^ p := by
  unfold val
  rw [List.length_set, sumD_set h, if_pos h]
theorem Digs.set_ {zs : List Int} (h : Digs zs) (p : Nat) {d : Int} (h0 : 0 ≤ d) (h1 : d ≤ 65535) : Digs (zs.set p d) := by
  intro x hx
  rcases List.mem_or_eq_of_mem_set hx with k | k
  · exact h x k
  · rw [k]; exact ⟨h0, h1⟩
theorem val_zeros (n : Nat) : val (List.replicate n 0) = 0 := by
  have : sumD (dig (List.replicate n 0)) n = sumD (dig (List.replicate n 0)) 0 := sumD_more (Nat.zero_le _) (fun j _ => by
    unfold dig
    rw [List.getD_eq_getElem?_getD, List.getElem?_replicate]
    split <;> rfl)
  unfold val; rw [List.length_replicate]; exact this
theorem digs_zeros (n : Nat) : Digs (List.replicate n 0) := by
  intro d hd; rw [(List.mem_replicate.1 hd).2]; omega

/-- What is so of a product behind i whole rows and k limbs of the next. -/
structure Mulling (xs ys : List Int) (i k : Nat) (zs : List Int) (C : Int) : Prop where
  len : zs.length = xs.length + ys.length + 1
  digs : Digs zs
  c0 : 0 ≤ C
  c1 : C ≤ 65535
  eq : val zs + C * 65536 ^ (i + k) = sumD (dig xs) i * val ys + dig xs i * sumD (dig ys) k * 65536 ^ i

section
variable {xs ys zs : List Int} {i k : Nat} {C : Int}
theorem Mulling.start : Mulling xs ys 0 0 (List.replicate (xs.length + ys.length + 1) 0) 0 :=
  ⟨by simp, digs_zeros _, by omega, by omega, by rw [val_zeros]; simp [sumD]⟩
/-- Rounds are no more than limbs, and one. -/
theorem Mulling.few (h : Mulling xs ys i k zs C) (hx : Digs xs) (hy : Digs ys) (hk : k < ys.length ∨ 0 < C) : k ≤ ys.length := by
  rcases hk with hk | hk
  · omega
  rcases Nat.lt_or_ge ys.length k with l | l
  · obtain ⟨len, digs, c0, c1, eq⟩ := h
    exfalso
    rw [val_more (show ys.length ≤ k by omega)] at eq
    have e1 : sumD (dig xs) i * val ys + dig xs i * val ys * 65536 ^ i = sumD (dig xs) (i + 1) * val ys := by
      rw [sumD, Int.add_mul, Int.mul_right_comm]
    rw [e1] at eq
    have b := hy.bd
    have a := sumD_bd hx.at_ (i + 1)
    have m1 : sumD (dig xs) (i + 1) * val ys ≤ sumD (dig xs) (i + 1) * 65536 ^ ys.length := Int.mul_le_mul_of_nonneg_left (by omega) a.1
    have m2 : sumD (dig xs) (i + 1) * 65536 ^ ys.length < 65536 ^ (i + 1) * 65536 ^ ys.length := Int.mul_lt_mul_of_pos_right a.2 (pow_pos _)
    rw [← Int.pow_add] at m2
    have m3 := pow_le (show i + 1 + ys.length ≤ i + k by omega)
    have m4 : 1 * 65536 ^ (i + k) ≤ C * 65536 ^ (i + k) := Int.mul_le_mul_of_nonneg_right (by omega) (Int.le_of_lt (pow_pos _))
    have := digs.bd.1
    omega
  · exact l
theorem prod_bd {x y : Int} (hx : 0 ≤ x ∧ x ≤ 65535) (hy : 0 ≤ y ∧ y ≤ 65535) : 0 ≤ x * y ∧ x * y ≤ 4294836225 := by
  have h1 : x * y ≤ 65535 * y := Int.mul_le_mul_of_nonneg_right hx.2 hy.1
  exact ⟨Int.mul_nonneg hx.1 hy.1, by omega⟩
theorem Mulling.step (h : Mulling xs ys i k zs C) (hx : Digs xs) (hy : Digs ys) (hi : i < xs.length) (hk : k ≤ ys.length) :
    Mulling xs ys i (k + 1) (zs.set (i + k) ((C + (dig zs (i + k) + dig xs i * dig ys k)) % 65536)) ((C + (dig zs (i + k) + dig xs i * dig ys k)) / 65536) := by
  obtain ⟨len, digs, c0, c1, eq⟩ := h
  have pb := prod_bd (hx.at_ i) (hy.at_ k)
  have zb := digs.at_ (i + k)
  have hp : i + k < zs.length := by omega
  refine ⟨by simp [len], digs.set_ _ (by omega) (by omega), by omega, by omega, ?_⟩
  rw [val_set hp, sumD, ← Nat.add_assoc, pow_succ']
  have e := Int.mul_ediv_add_emod (C + (dig zs (i + k) + dig xs i * dig ys k)) 65536
  have e0 : dig xs i * (sumD (dig ys) k + dig ys k * 65536 ^ k) * 65536 ^ i = dig xs i * sumD (dig ys) k * 65536 ^ i + dig xs i * dig ys k * 65536 ^ (i + k) := by
    rw [Int.mul_add, Int.add_mul, ← Int.mul_assoc, Int.mul_assoc (dig xs i * dig ys k), ← Int.pow_add, Nat.add_comm k i]
  rw [e0]
  generalize dig xs i * dig ys k = q at *
  generalize (C + (dig zs (i + k) + q)) % 65536 = r at *
  generalize (C + (dig zs (i + k) + q)) / 65536 = t at *
  generalize dig zs (i + k) = z at *
  generalize (65536 : Int) ^ (i + k) = P at *
  have e2 : C = 65536 * t + r - z - q := by omega
  subst e2
  have e3 : t * (65536 * P) = 65536 * t * P := by rw [← Int.mul_assoc, Int.mul_comm t 65536]
  rw [e3]
  simp only [Int.sub_mul, Int.add_mul] at eq ⊢
  omega
theorem Mulling.next (h : Mulling xs ys i k zs 0) (hk : ys.length ≤ k) : Mulling xs ys (i + 1) 0 zs 0 := by
  obtain ⟨len, digs, c0, c1, eq⟩ := h
  refine ⟨len, digs, c0, c1, ?_⟩
  rw [val_more hk] at eq
  have e1 : sumD (dig xs) i * val ys + dig xs i * val ys * 65536 ^ i = sumD (dig xs) (i + 1) * val ys := by
    rw [sumD, Int.add_mul, Int.mul_right_comm]
  rw [e1] at eq
  simp [sumD] at eq ⊢
  exact eq
theorem Mulling.ends (h : Mulling xs ys xs.length 0 zs 0) : val zs = val xs * val ys := by
  have := h.eq
  rw [val_more (Nat.le_refl _)] at this
  simpa [sumD] using this
end
end Go.Proofs.Ytmafkknnekkcdaa
