/- Sizes of numbers, and quotients rounded down or up. No condition. -/
import Derived.Test.YtmafkknnekkcdaaRefD
namespace Go.Proofs.Ytmafkknnekkcdaa
open Go.RowKit

theorem mag_long {x : Int} (h : Fits x) : mag x < 65536 ^ 4 := by rw [pow4]; have := mag_bd h; omega
theorem pow8 : (65536 : Int) ^ 8 = 340282366920938463463374607431768211456 := by decide
theorem mag_prod {a b : Int} (ha : Fits a) (hb : Fits b) : mag (a * b) < 65536 ^ 8 := by
  have h1 := mag_bd ha
  have h2 := mag_bd hb
  have e : mag (a * b) = mag a * mag b := by
    rw [mag_mul]
    have := mag_mul_nonneg ha hb
    generalize mag a * mag b = m at *
    unfold mag sided
    cases (decide (a < 0) != decide (b < 0)) <;> simp <;> omega
  have h3 : mag a * mag b ≤ 9223372036854775808 * mag b := Int.mul_le_mul_of_nonneg_right h1.2 h2.1
  rw [e, pow8]; omega
theorem mag_sided {neg : Bool} {q : Int} (h : 0 ≤ q) : mag (sided neg q) = q := by
  unfold mag sided; cases neg <;> simp <;> omega
theorem mag_rquo {a b c : Int} (up : Bool) (ha : Fits a) (hb : Fits b) (hc : 1 ≤ c) : mag (rquo a b c up) < 65536 ^ 8 := by
  have hn := mag_mul_nonneg ha hb
  have h1 := mag_bd ha
  have h2 := mag_bd hb
  have h3 : mag a * mag b ≤ 9223372036854775808 * mag b := Int.mul_le_mul_of_nonneg_right h1.2 h2.1
  have q0 : 0 ≤ mag a * mag b / c := Int.ediv_nonneg hn (by omega)
  have q1 := Int.ediv_le_self c hn
  rw [pow8]
  by_cases hr : mag a * mag b % c = 0
  · rw [rquo_even (by omega) hr, mag_sided q0]; omega
  · by_cases hu : (decide (a < 0) != decide (b < 0)) = up
    · rw [rquo_in hu, mag_sided q0]; omega
    · have hu' : (decide (a < 0) != decide (b < 0)) = !up := by revert hu; cases (decide (a < 0) != decide (b < 0)) <;> cases up <;> simp
      rw [rquo_out (by omega) hr hu', mag_sided (by omega)]; omega
end Go.Proofs.Ytmafkknnekkcdaa
