/- Signed numbers of two words: their words, when they fit, and the words of sums, differences, products. No condition. -/
import Derived.Test.YtmafkknnekkcdaaNum
namespace Go.Proofs.Ytmafkknnekkcdaa
open Go.RowKit

/-- The number fits two words. -/
def Two (x : Int) : Prop := Fits (x / 18446744073709551616)
instance (x : Int) : Decidable (Two x) := by unfold Two; infer_instance
/-- What is answered of an exact result: the number, or zero. -/
def twoV (x : Int) : Int := if Two x then x else 0
/-- What is answered of an exact result: the error's number. -/
def twoE (x : Int) : Int := if Two x then 0 else 12
theorem twoV_fit {x : Int} (h : Two x) : twoV x = x := if_pos h
theorem twoE_fit {x : Int} (h : Two x) : twoE x = 0 := if_pos h
theorem twoV_over {x : Int} (h : ¬ Two x) : twoV x = 0 := if_neg h
theorem twoE_over {x : Int} (h : ¬ Two x) : twoE x = 12 := if_neg h
theorem two_bd {x : Int} : Two x ↔ -170141183460469231731687303715884105728 ≤ x ∧ x ≤ 170141183460469231731687303715884105727 := by unfold Two Fits; omega
theorem two_zero : Two 0 := by unfold Two Fits; omega
theorem twoV_two (x : Int) : Two (twoV x) := by
  by_cases h : Two x
  · rw [twoV_fit h]; exact h
  · rw [twoV_over h]; exact two_zero
theorem twoE_ok {x : Int} : twoE x = 0 ↔ Two x := by
  by_cases h : Two x
  · simp [twoE_fit h, h]
  · simp [twoE_over h, h]
theorem two_of_long {v : Int} (h : Fits v) : Two v := by unfold Two; unfold Fits at *; omega

/-! two words and the number -/
theorem two_hi {h l : Int} (l0 : 0 ≤ l) (l1 : l < 18446744073709551616) : (h * 18446744073709551616 + l) / 18446744073709551616 = h := by omega
theorem two_lo {h l : Int} (l0 : 0 ≤ l) (l1 : l < 18446744073709551616) : (h * 18446744073709551616 + l) % 18446744073709551616 = l := by omega
theorem two_eq {x y : Int} (h : x / 18446744073709551616 = y / 18446744073709551616) (k : x % 18446744073709551616 = y % 18446744073709551616) : x = y := by omega
theorem lo_bd (x : Int) : 0 ≤ x % 18446744073709551616 ∧ x % 18446744073709551616 < 18446744073709551616 := by omega
theorem long_words {v : Int} (h : Fits v) : v / 9223372036854775808 = v / 18446744073709551616 ∧ IntKind.u64.wrap v = v % 18446744073709551616 := by
  rw [IntKind.wrap_u64]; unfold Fits at h; omega
theorem zero_words : (0 : Int) = 0 / 18446744073709551616 ∧ (0 : Int) = 0 % 18446744073709551616 := by omega
theorem ret_w {a b c d : Int} (h : a = c) (k : b = d) : Ending.returned (.agg #[.int .i64 a, .int .u64 b]) = .returned (.agg #[.int .i64 c, .int .u64 d]) := by rw [h, k]
theorem ret_we {a b c d e f : Int} (h : a = c) (k : b = d) (j : e = f) : Ending.returned (.tuple #[.agg #[.int .i64 a, .int .u64 b], .int .i64 e]) = .returned (.tuple #[.agg #[.int .i64 c, .int .u64 d], .int .i64 f]) := by rw [h, k, j]
theorem ret_wb {a b c d : Int} {e f : Bool} (h : a = c) (k : b = d) (j : e = f) : Ending.returned (.tuple #[.agg #[.int .i64 a, .int .u64 b], .bool e]) = .returned (.tuple #[.agg #[.int .i64 c, .int .u64 d], .bool f]) := by rw [h, k, j]

/-! sums and differences -/
theorem wrap64_idem (x c : Int) : wrap64 (wrap64 x + c) = wrap64 (x + c) := by unfold wrap64; omega
theorem wrap64_bit {c : Int} (h0 : 0 ≤ c) (h1 : c ≤ 1) : wrap64 c = c := by unfold wrap64; omega
theorem carry_bd (a b : Int) : 0 ≤ (a % 18446744073709551616 + b % 18446744073709551616) / 18446744073709551616 ∧ (a % 18446744073709551616 + b % 18446744073709551616) / 18446744073709551616 ≤ 1 := by omega
theorem borrow_bd (a b : Int) : 0 ≤ -((a % 18446744073709551616 - b % 18446744073709551616) / 18446744073709551616) ∧ -((a % 18446744073709551616 - b % 18446744073709551616) / 18446744073709551616) ≤ 1 := by omega
theorem sum_words (a b : Int) : (a + b) / 18446744073709551616 = a / 18446744073709551616 + b / 18446744073709551616 + (a % 18446744073709551616 + b % 18446744073709551616) / 18446744073709551616 ∧ (a + b) % 18446744073709551616 = (a % 18446744073709551616 + b % 18446744073709551616) % 18446744073709551616 := by omega
theorem diff_words (a b : Int) : (a - b) / 18446744073709551616 = a / 18446744073709551616 - b / 18446744073709551616 - -((a % 18446744073709551616 - b % 18446744073709551616) / 18446744073709551616) ∧ (a - b) % 18446744073709551616 = (a % 18446744073709551616 - b % 18446744073709551616) % 18446744073709551616 := by omega
theorem sum_hi (a b : Int) : wrap64 (wrap64 (a / 18446744073709551616 + b / 18446744073709551616) + (a % 18446744073709551616 + b % 18446744073709551616) / 18446744073709551616) = wrap64 ((a + b) / 18446744073709551616) := by
  rw [wrap64_idem, (sum_words a b).1]
theorem diff_hi (a b : Int) : wrap64 (wrap64 (a / 18446744073709551616 - b / 18446744073709551616) + (a % 18446744073709551616 - b % 18446744073709551616) / 18446744073709551616) = wrap64 ((a - b) / 18446744073709551616) := by
  rw [wrap64_idem, (diff_words a b).1, Int.sub_neg]
theorem sum_core {x y c : Int} (hx : Fits x) (hy : Fits y) (c0 : 0 ≤ c) (c1 : c ≤ 1) :
    ((decide (x < 0) != decide (wrap64 (x + y + c) < 0)) && (decide (y < 0) != decide (wrap64 (x + y + c) < 0))) = !decide (Fits (x + y + c)) := by
  unfold wrap64
  by_cases hF : Fits (x + y + c)
  all_goals
    simp only [hF, decide_true, decide_false, Bool.not_true, Bool.not_false]
    unfold Fits at *
    by_cases h1 : x < 0 <;> by_cases h2 : y < 0 <;> by_cases h3 : (x + y + c + 9223372036854775808) % 18446744073709551616 - 9223372036854775808 < 0 <;> simp [h1, h2, h3] <;> omega
theorem diff_core {x y c : Int} (hx : Fits x) (hy : Fits y) (c0 : 0 ≤ c) (c1 : c ≤ 1) :
    ((decide (x < 0) != decide (y < 0)) && (decide (x < 0) != decide (wrap64 (x - y - c) < 0))) = !decide (Fits (x - y - c)) := by
  unfold wrap64
  by_cases hF : Fits (x - y - c)
  all_goals
    simp only [hF, decide_true, decide_false, Bool.not_true, Bool.not_false]
    unfold Fits at *
    by_cases h1 : x < 0 <;> by_cases h2 : y < 0 <;> by_cases h3 : (x - y - c + 9223372036854775808) % 18446744073709551616 - 9223372036854775808 < 0 <;> simp [h1, h2, h3] <;> omega
theorem sum_over {a b : Int} (ha : Two a) (hb : Two b) :
    decide (bits .and .i64 (bits .xor .i64 (a / 18446744073709551616) (wrap64 ((a + b) / 18446744073709551616))) (bits .xor .i64 (b / 18446744073709551616) (wrap64 ((a + b) / 18446744073709551616))) < 0) = !decide (Two (a + b)) := by
  rw [sign_add ha hb (wrap_fits _)]
  have h := sum_core ha hb (carry_bd a b).1 (carry_bd a b).2
  rw [← (sum_words a b).1] at h
  exact h
theorem diff_over {a b : Int} (ha : Two a) (hb : Two b) :
    decide (bits .and .i64 (bits .xor .i64 (a / 18446744073709551616) (b / 18446744073709551616)) (bits .xor .i64 (a / 18446744073709551616) (wrap64 ((a - b) / 18446744073709551616))) < 0) = !decide (Two (a - b)) := by
  rw [sign_sub ha hb (wrap_fits _)]
  have h := diff_core ha hb (borrow_bd a b).1 (borrow_bd a b).2
  rw [← (diff_words a b).1] at h
  exact h

/-! order -/
/-- 1, -1 or 0, as the first number is greater, less, or the same. -/
def ordI (x y : Int) : Int := if x < y then -1 else if y < x then 1 else 0
theorem ordI_lt {x y : Int} (h : x < y) : ordI x y = -1 := if_pos h
theorem ordI_gt {x y : Int} (h : y < x) : ordI x y = 1 := by unfold ordI; rw [if_neg (by omega), if_pos h]
theorem ordI_eq (x : Int) : ordI x x = 0 := by unfold ordI; rw [if_neg (by omega), if_neg (by omega)]
theorem ordI_zero {x y : Int} : ordI x y = 0 ↔ x = y := by
  unfold ordI; split <;> try split
  all_goals omega
theorem ordI_two (x y : Int) : ordI x y = if ordI (x / 18446744073709551616) (y / 18446744073709551616) = 0 then ordI (x % 18446744073709551616) (y % 18446744073709551616) else ordI (x / 18446744073709551616) (y / 18446744073709551616) := by
  unfold ordI
  by_cases h1 : x / 18446744073709551616 < y / 18446744073709551616
  · rw [if_pos h1, if_pos (by omega)]; rfl
  · by_cases h2 : y / 18446744073709551616 < x / 18446744073709551616
    · rw [if_neg h1, if_pos h2, if_neg (by omega), if_pos (by omega)]; rfl
    · rw [if_neg h1, if_neg h2, if_pos rfl]
      have e : x / 18446744073709551616 = y / 18446744073709551616 := by omega
      by_cases h3 : x % 18446744073709551616 < y % 18446744073709551616
      · rw [if_pos h3, if_pos (by omega)]
      · rw [if_neg h3, if_neg (by omega)]
        by_cases h4 : y % 18446744073709551616 < x % 18446744073709551616
        · rw [if_pos h4, if_pos (by omega)]
        · rw [if_neg h4, if_neg (by omega)]

/-! products -/
theorem prod_fit {a b : Int} (ha : Fits a) (hb : Fits b) : -85070591730234615865843651857942052864 ≤ a * b ∧ a * b ≤ 85070591730234615865843651857942052864 := by
  unfold Fits at ha hb
  have h1 : (mag a) * (mag b) ≤ 9223372036854775808 * 9223372036854775808 := Int.mul_le_mul (mag_bd ha).2 (mag_bd hb).2 (mag_bd hb).1 (by decide)
  have h0 : 0 ≤ mag a * mag b := Int.mul_nonneg (mag_bd ha).1 (mag_bd hb).1
  rw [mag_mul a b]
  unfold sided
  split <;> omega
theorem prod_two {a b : Int} (ha : Fits a) (hb : Fits b) : Two (a * b) := by
  rw [two_bd]; have := prod_fit ha hb; omega
/-- The words of a product of two signed words, out of those of the product of their patterns. -/
theorem prod_words {a b : Int} (_ha : Fits a) (_hb : Fits b) :
    (a % 18446744073709551616 * (b % 18446744073709551616)) % 18446744073709551616 = (a * b) % 18446744073709551616 ∧
    ∃ k, a % 18446744073709551616 * (b % 18446744073709551616) / 18446744073709551616 - (if a < 0 then b % 18446744073709551616 else 0) - (if b < 0 then a % 18446744073709551616 else 0) = (a * b) / 18446744073709551616 + 18446744073709551616 * k := by
  unfold Fits at _ha _hb
  constructor
  · rw [← Int.mul_emod]
  · have ea : a % 18446744073709551616 = a + 18446744073709551616 * (if a < 0 then 1 else 0) := by split <;> omega
    have eb : b % 18446744073709551616 = b + 18446744073709551616 * (if b < 0 then 1 else 0) := by split <;> omega
    by_cases h1 : a < 0 <;> by_cases h2 : b < 0
    · rw [if_pos h1] at ea; rw [if_pos h2] at eb
      rw [if_pos h1, if_pos h2, ea, eb]
      refine ⟨-1, ?_⟩
      have e : (a + 18446744073709551616 * 1) * (b + 18446744073709551616 * 1) = a * b + 18446744073709551616 * (a + b + 18446744073709551616) := by
        rw [Int.add_mul, Int.mul_add, Int.mul_add]; omega
      rw [e, Int.add_mul_ediv_left _ _ (by decide)]
      omega
    · rw [if_pos h1] at ea; rw [if_neg h2] at eb
      rw [if_pos h1, if_neg h2, ea, eb]
      refine ⟨0, ?_⟩
      have e : (a + 18446744073709551616 * 1) * (b + 18446744073709551616 * 0) = a * b + 18446744073709551616 * b := by
        rw [Int.add_mul, Int.mul_add]; omega
      rw [e, Int.add_mul_ediv_left _ _ (by decide)]
      omega
    · rw [if_neg h1] at ea; rw [if_pos h2] at eb
      rw [if_neg h1, if_pos h2, ea, eb]
      refine ⟨0, ?_⟩
      have e : (a + 18446744073709551616 * 0) * (b + 18446744073709551616 * 1) = a * b + 18446744073709551616 * a := by
        rw [Int.mul_zero, Int.add_zero, Int.mul_add]; omega
      rw [e, Int.add_mul_ediv_left _ _ (by decide)]
      omega
    · rw [if_neg h1] at ea; rw [if_neg h2] at eb
      rw [if_neg h1, if_neg h2, ea, eb]
      exact ⟨0, by rw [Int.mul_zero, Int.add_zero, Int.add_zero]; omega⟩
theorem prod_hi {a b : Int} (ha : Fits a) (hb : Fits b) :
    wrap64 (a % 18446744073709551616 * (b % 18446744073709551616) / 18446744073709551616 - (if a < 0 then b % 18446744073709551616 else 0) - (if b < 0 then a % 18446744073709551616 else 0)) = (a * b) / 18446744073709551616 := by
  obtain ⟨_, k, hk⟩ := prod_words ha hb
  rw [hk]
  have h := prod_two ha hb
  unfold Two Fits at h
  unfold wrap64
  omega
theorem wrap_wrap_u (h x : Int) : wrap64 (IntKind.u64.wrap (h - x)) = wrap64 (h - x) := by rw [IntKind.wrap_u64]; unfold wrap64; omega
theorem wrap_wrap_uu (h x y : Int) : wrap64 (IntKind.u64.wrap (IntKind.u64.wrap (h - x) - y)) = wrap64 (h - x - y) := by rw [IntKind.wrap_u64, IntKind.wrap_u64]; unfold wrap64; omega

/-! numbers taken around, as two words keep them -/
/-- The number of two words that differs by a multiple of 2^128. -/
def around (x : Int) : Int := (x + 170141183460469231731687303715884105728) % 340282366920938463463374607431768211456 - 170141183460469231731687303715884105728
theorem around_two (x : Int) : Two (around x) := by rw [two_bd]; unfold around; omega
theorem around_fit {x : Int} (h : Two x) : around x = x := by rw [two_bd] at h; unfold around; omega
theorem around_hi (x : Int) : around x / 18446744073709551616 = wrap64 (x / 18446744073709551616) := by unfold around wrap64; omega
theorem around_lo (x : Int) : around x % 18446744073709551616 = x % 18446744073709551616 := by unfold around; omega
theorem around_around (x c : Int) : around (around x + c) = around (x + c) := by unfold around; omega
theorem around_ten (x c : Int) : around (10 * around x + c) = around (10 * x + c) := by unfold around; omega
theorem around_neg (x : Int) : around (-around x) = around (-x) := by unfold around; omega
theorem neg_hi (a : Int) : wrap64 (wrap64 (-(a / 18446744073709551616)) + -(a % 18446744073709551616) / 18446744073709551616) = around (-a) / 18446744073709551616 := by
  rw [wrap64_idem, around_hi]; congr 1; omega
theorem neg_lo (a : Int) : -(a % 18446744073709551616) % 18446744073709551616 = around (-a) % 18446744073709551616 := by rw [around_lo]; omega
theorem ten_lo (a d : Int) : (a % 18446744073709551616 * 10 + d) % 18446744073709551616 = around (10 * a + d) % 18446744073709551616 := by rw [around_lo]; omega
theorem ten_hi (a d : Int) : wrap64 (wrap64 (10 * (a / 18446744073709551616)) + (a % 18446744073709551616 * 10 / 18446744073709551616 + (a % 18446744073709551616 * 10 % 18446744073709551616 + d) / 18446744073709551616)) = around (10 * a + d) / 18446744073709551616 := by
  rw [around_hi]; unfold wrap64; omega
end Go.Proofs.Ytmafkknnekkcdaa
