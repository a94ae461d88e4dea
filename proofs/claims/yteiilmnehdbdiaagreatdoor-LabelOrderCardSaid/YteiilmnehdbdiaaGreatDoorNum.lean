/- The whole numbers behind the programme's words: results that fit, signs of bit patterns, rounded quotients. No condition. -/
import Derived.WalkKit
import Derived.Lib.Hide
namespace Go.Proofs.YteiilmnehdbdiaaGreatDoor
open Go.RowKit

/-- Fits a signed word of 64 bits. -/
def Fits (x : Int) : Prop := -9223372036854775808 ≤ x ∧ x ≤ 9223372036854775807
instance (x : Int) : Decidable (Fits x) := by unfold Fits; infer_instance
/-- What is answered of an exact result: the number. -/
def toldV (x : Int) : Int := if Fits x then x else 0
/-- What is answered of an exact result: the error's number. -/
def toldE (x : Int) : Int := if Fits x then 0 else 12
theorem toldV_fit {x : Int} (h : Fits x) : toldV x = x := if_pos h
theorem toldE_fit {x : Int} (h : Fits x) : toldE x = 0 := if_pos h
theorem toldV_over {x : Int} (h : ¬ Fits x) : toldV x = 0 := if_neg h
theorem toldE_over {x : Int} (h : ¬ Fits x) : toldE x = 12 := if_neg h
theorem toldV_fits (x : Int) : Fits (toldV x) := by
  by_cases h : Fits x
  · rw [toldV_fit h]; exact h
  · rw [toldV_over h]; unfold Fits; omega
theorem toldE_ok {x : Int} : toldE x = 0 ↔ Fits x := by
  by_cases h : Fits x
  · simp [toldE_fit h, h]
  · simp [toldE_over h, h]

theorem ret_two {a b c d : Int} (h : a = c) (k : b = d) : Ending.returned (.tuple #[.int .i64 a, .int .i64 b]) = .returned (.tuple #[.int .i64 c, .int .i64 d]) := by rw [h, k]

/-! signs of bit patterns -/
theorem wrap_toInt (v : BitVec 64) : IntKind.i64.wrap (v.toNat : Int) = v.toInt := by
  rw [IntKind.wrap_i64, BitVec.toInt_eq_toNat_cond]
  have := v.isLt
  split <;> omega
theorem ofInt_neg {a : Int} (h : Fits a) : (BitVec.ofInt 64 a).msb = decide (a < 0) := by
  unfold Fits at h
  rw [BitVec.msb_eq_toInt, BitVec.toInt_ofInt]
  have e : a.bmod (2 ^ 64) = a := by rw [Int.bmod_def]; omega
  rw [e]
theorem wrap_neg (v : BitVec 64) : decide (IntKind.i64.wrap (v.toNat : Int) < 0) = v.msb := by
  rw [wrap_toInt, BitVec.msb_eq_toInt]
theorem ofInt_wrap (v : BitVec 64) : BitVec.ofInt 64 (IntKind.i64.wrap (v.toNat : Int)) = v := by
  rw [wrap_toInt, BitVec.ofInt_toInt]
theorem sign_add {a b s : Int} (ha : Fits a) (hb : Fits b) (hs : Fits s) :
    decide (bits .and .i64 (bits .xor .i64 a s) (bits .xor .i64 b s) < 0) = ((decide (a < 0) != decide (s < 0)) && (decide (b < 0) != decide (s < 0))) := by
  show decide (IntKind.i64.wrap ((BitVec.ofInt 64 (IntKind.i64.wrap ((BitVec.ofInt 64 a ^^^ BitVec.ofInt 64 s).toNat : Int)) &&& BitVec.ofInt 64 (IntKind.i64.wrap ((BitVec.ofInt 64 b ^^^ BitVec.ofInt 64 s).toNat : Int))).toNat : Int) < 0) = _
  rw [wrap_neg, ofInt_wrap, ofInt_wrap, BitVec.msb_and, BitVec.msb_xor, BitVec.msb_xor, ofInt_neg ha, ofInt_neg hb, ofInt_neg hs]
theorem sign_sub {a b s : Int} (ha : Fits a) (hb : Fits b) (hs : Fits s) :
    decide (bits .and .i64 (bits .xor .i64 a b) (bits .xor .i64 a s) < 0) = ((decide (a < 0) != decide (b < 0)) && (decide (a < 0) != decide (s < 0))) := by
  show decide (IntKind.i64.wrap ((BitVec.ofInt 64 (IntKind.i64.wrap ((BitVec.ofInt 64 a ^^^ BitVec.ofInt 64 b).toNat : Int)) &&& BitVec.ofInt 64 (IntKind.i64.wrap ((BitVec.ofInt 64 a ^^^ BitVec.ofInt 64 s).toNat : Int))).toNat : Int) < 0) = _
  rw [wrap_neg, ofInt_wrap, ofInt_wrap, BitVec.msb_and, BitVec.msb_xor, BitVec.msb_xor, ofInt_neg ha, ofInt_neg hb, ofInt_neg hs]
theorem wrap_fits (x : Int) : Fits (wrap64 x) := by
  unfold wrap64 Fits; omega
theorem add_over {a b : Int} (ha : Fits a) (hb : Fits b) :
    decide (bits .and .i64 (bits .xor .i64 a (wrap64 (a + b))) (bits .xor .i64 b (wrap64 (a + b))) < 0) = !decide (Fits (a + b)) := by
  rw [sign_add ha hb (wrap_fits _)]; unfold wrap64
  by_cases hF : Fits (a + b)
  all_goals
    simp only [hF, decide_true, decide_false, Bool.not_true, Bool.not_false]
    unfold Fits at *
    by_cases h1 : a < 0 <;> by_cases h2 : b < 0 <;> by_cases h3 : (a + b + 9223372036854775808) % 18446744073709551616 - 9223372036854775808 < 0 <;> simp [h1, h2, h3] <;> omega
theorem sub_over {a b : Int} (ha : Fits a) (hb : Fits b) :
    decide (bits .and .i64 (bits .xor .i64 a b) (bits .xor .i64 a (wrap64 (a - b))) < 0) = !decide (Fits (a - b)) := by
  rw [sign_sub ha hb (wrap_fits _)]; unfold wrap64
  by_cases hF : Fits (a - b)
  all_goals
    simp only [hF, decide_true, decide_false, Bool.not_true, Bool.not_false]
    unfold Fits at *
    by_cases h1 : a < 0 <;> by_cases h2 : b < 0 <;> by_cases h3 : (a - b + 9223372036854775808) % 18446744073709551616 - 9223372036854775808 < 0 <;> simp [h1, h2, h3] <;> omega
theorem wrap_of_fits {x : Int} (h : Fits x) : wrap64 x = x := by
  unfold Fits at h; unfold wrap64; omega

/-! sizes and signs -/
/-- How far a number is from zero. -/
def mag (x : Int) : Int := if x < 0 then -x else x
theorem mag_neg {x : Int} (h : x < 0) : mag x = -x := if_pos h
theorem mag_pos {x : Int} (h : ¬ x < 0) : mag x = x := if_neg h
theorem mag_bd {x : Int} (h : Fits x) : 0 ≤ mag x ∧ mag x ≤ 9223372036854775808 := by
  unfold Fits at h; unfold mag; split <;> omega
theorem mag_cast (x : Int) : ((x.natAbs : Nat) : Int) = mag x := by unfold mag; split <;> omega
/-- A number by its size and the side of zero. -/
def sided (neg : Bool) (n : Int) : Int := if neg then -n else n
theorem mag_mul (a b : Int) : a * b = sided (decide (a < 0) != decide (b < 0)) (mag a * mag b) := by
  unfold mag sided
  by_cases h1 : a < 0 <;> by_cases h2 : b < 0 <;> simp [h1, h2, Int.neg_mul, Int.mul_neg]
theorem ret_true {x : Bool} (h : x = true) : Ending.returned (.bool x) = .returned (.bool true) := by rw [h]
theorem ret_one {k : IntKind} {a b : Int} (h : a = b) : Ending.returned (.int k a) = .returned (.int k b) := by rw [h]
theorem wrap_mag {a : Int} (h1 : -9223372036854775808 ≤ a) (h : a < 0) : IntKind.u64.wrap (-IntKind.u64.wrap a) = -a := by
  rw [IntKind.wrap_u64, IntKind.wrap_u64]; omega
theorem wrap_side {n : Int} (h0 : 0 ≤ n) (h1 : n ≤ 9223372036854775808) : wrap64 (IntKind.u64.wrap (-n)) = -n := by
  rw [IntKind.wrap_u64]; unfold wrap64; omega
theorem sided_fit {neg : Bool} {n : Int} (h0 : 0 ≤ n) : Fits (sided neg n) ↔ (if neg then n ≤ 9223372036854775808 else n ≤ 9223372036854775807) := by
  cases neg <;> simp [sided, Fits] <;> omega
/-- A product's high word is not 0, or it is and the low word is the product. -/
theorem mul_over {a b : Int} (h : mag a * mag b / 18446744073709551616 ≠ 0) (h0 : 0 ≤ mag a * mag b) : ¬ Fits (a * b) := by
  rw [mag_mul, sided_fit h0]
  split <;> omega
theorem mul_low {a b : Int} (h : mag a * mag b / 18446744073709551616 = 0) : mag a * mag b % 18446744073709551616 = mag a * mag b := by omega
theorem mag_mul_nonneg {a b : Int} (ha : Fits a) (hb : Fits b) : 0 ≤ mag a * mag b := Int.mul_nonneg (mag_bd ha).1 (mag_bd hb).1

/-! rounded quotients -/
/-- The quotient of a product, rounded. -/
def rquo (a b c : Int) (up : Bool) : Int := if up then -((-(a * b)) / c) else a * b / c
theorem neg_div_exact {m c : Int} (hc : 0 < c) (h : m % c = 0) : (-m) / c = -(m / c) := by
  have e : m = c * (m / c) := by have := Int.mul_ediv_add_emod m c; omega
  have : (-m) / c = (c * (-(m / c))) / c := by congr 1; rw [Int.mul_neg]; omega
  rw [this, Int.mul_ediv_cancel_left _ (by omega)]
theorem neg_div_over {m c : Int} (hc : 0 < c) (h : m % c ≠ 0) : (-m) / c = -(m / c + 1) := by
  have e := Int.mul_ediv_add_emod m c
  have l := Int.emod_nonneg m (show c ≠ 0 by omega)
  have g := Int.emod_lt_of_pos m hc
  have : -m = (c - m % c) + c * (-(m / c + 1)) := by rw [Int.mul_neg, Int.mul_add]; omega
  rw [this, Int.add_mul_ediv_left _ _ (by omega), Int.ediv_eq_zero_of_lt (by omega) (by omega)]
  omega
theorem rquo_even {a b c : Int} {up : Bool} (hc : 0 < c) (h : mag a * mag b % c = 0) :
    rquo a b c up = sided (decide (a < 0) != decide (b < 0)) (mag a * mag b / c) := by
  unfold rquo
  rw [mag_mul]
  cases up <;> cases (decide (a < 0) != decide (b < 0)) <;> simp [sided, neg_div_exact hc h]
theorem rquo_in {a b c : Int} {up : Bool} (hu : (decide (a < 0) != decide (b < 0)) = up) :
    rquo a b c up = sided (decide (a < 0) != decide (b < 0)) (mag a * mag b / c) := by
  unfold rquo
  rw [mag_mul, hu]
  cases up <;> simp [sided]
theorem rquo_out {a b c : Int} {up : Bool} (hc : 0 < c) (h : mag a * mag b % c ≠ 0) (hu : (decide (a < 0) != decide (b < 0)) = !up) :
    rquo a b c up = sided (decide (a < 0) != decide (b < 0)) (mag a * mag b / c + 1) := by
  unfold rquo
  rw [mag_mul, hu]
  cases up <;> simp [sided, neg_div_over hc h]
/-- The quotient's answer: its number. -/
def ratV (a b c : Int) (up : Bool) : Int := if c < 1 then 0 else toldV (rquo a b c up)
/-- The quotient's answer: its error. -/
def ratE (a b c : Int) (up : Bool) : Int := if c < 1 then 11 else toldE (rquo a b c up)
theorem ratV_in {a b c : Int} {up : Bool} (h : 1 ≤ c) : ratV a b c up = toldV (rquo a b c up) := if_neg (by omega)
theorem ratE_in {a b c : Int} {up : Bool} (h : 1 ≤ c) : ratE a b c up = toldE (rquo a b c up) := if_neg (by omega)
theorem sided_over {neg : Bool} {n : Int} (h : 18446744073709551616 ≤ n) : ¬ Fits (sided neg n) := by
  cases neg <;> simp [sided, Fits] <;> omega
end Go.Proofs.YteiilmnehdbdiaaGreatDoor
