/- The arithmetic of a long division of two words by one, by halves: what each digit's guess comes to. -/
import Derived.Test.YtljgfallhnlebaaNum
import Derived.Laws.BitsAllLaws
import Derived.Laws.Bits64b
import Derived.Shelf.Small.Bits
import Derived.Lib.ItoaNum
import Derived.Shelf.Strconv.Itoa0
import Derived.Shelf.Bits.Mul64
namespace Go.Proofs.Ytljgfallhnlebaa
open Go.RowKit

/-- What holds of a guess: it isn't below the digit, and the rest is its own. -/
structure Guess (U V Y1 Y0 D q r : Int) : Prop where
  q0 : 0 ≤ q
  q1 : q ≤ 8589934591
  r0 : 0 ≤ r
  r1 : r < 4294967296
  rest : r = U - q * Y1
  low : D ≤ q
/-- The two halves of a divisor whose highest bit is set; a number below it; a half word behind. -/
structure Halves (U V Y Y1 Y0 D : Int) : Prop where
  y : Y = Y1 * 4294967296 + Y0
  y10 : 2147483648 ≤ Y1
  y11 : Y1 < 4294967296
  y00 : 0 ≤ Y0
  y01 : Y0 < 4294967296
  u0 : 0 ≤ U
  u1 : U < Y
  v0 : 0 ≤ V
  v1 : V < 4294967296
  d : D = (U * 4294967296 + V) / Y

section
variable {U V Y Y1 Y0 D q r : Int}
theorem Halves.d0 (h : Halves U V Y Y1 Y0 D) : 0 ≤ D := by
  obtain ⟨y, y10, y11, y00, y01, u0, u1, v0, v1, d⟩ := h
  rw [d]; exact Int.ediv_nonneg (by omega) (by omega)
theorem Halves.d1 (h : Halves U V Y Y1 Y0 D) : D < 4294967296 := by
  obtain ⟨y, y10, y11, y00, y01, u0, u1, v0, v1, d⟩ := h
  rw [d]; exact Int.ediv_lt_of_lt_mul (by omega) (by omega)
theorem Halves.below (h : Halves U V Y Y1 Y0 D) : D * Y ≤ U * 4294967296 + V := by
  obtain ⟨y, y10, y11, y00, y01, u0, u1, v0, v1, d⟩ := h
  rw [d]; exact Int.ediv_mul_le _ (by omega)
theorem Halves.above (h : Halves U V Y Y1 Y0 D) : U * 4294967296 + V < (D + 1) * Y := by
  obtain ⟨y, y10, y11, y00, y01, u0, u1, v0, v1, d⟩ := h
  rw [d]; exact Int.lt_ediv_add_one_mul_self _ (by omega)
/-- A number whose product isn't above is no greater than the digit; one whose product is above is greater. -/
theorem Halves.le_of (h : Halves U V Y Y1 Y0 D) (hq : q * Y ≤ U * 4294967296 + V) : q ≤ D := by
  have := h.above
  have hy : 0 < Y := by have := h.y; have := h.y10; have := h.y00; omega
  rcases Int.lt_or_le D q with k | k
  · have : (D + 1) * Y ≤ q * Y := Int.mul_le_mul_of_nonneg_right (by omega) (by omega)
    omega
  · exact k
theorem Halves.lt_of (h : Halves U V Y Y1 Y0 D) (hq : U * 4294967296 + V < q * Y) : D < q := by
  have := h.below
  have hy : 0 < Y := by have := h.y; have := h.y10; have := h.y00; omega
  rcases Int.lt_or_le D q with k | k
  · exact k
  · have : q * Y ≤ D * Y := Int.mul_le_mul_of_nonneg_right k (by omega)
    omega
theorem Halves.parts (h : Halves U V Y Y1 Y0 D) (g : Guess U V Y1 Y0 D q r) : q * Y = (U - r) * 4294967296 + q * Y0 := by
  rw [h.y, Int.mul_add, ← Int.mul_assoc]
  have : q * Y1 = U - r := by have := g.rest; omega
  rw [this]

theorem Guess.start (h : Halves U V Y Y1 Y0 D) : Guess U V Y1 Y0 D (U / Y1) (U - U / Y1 * Y1) := by
  have hU : U < Y1 * 4294967296 + 4294967296 := by have := h.y; have := h.u1; have := h.y01; omega
  have y10 := h.y10
  have y11 := h.y11
  have u0 := h.u0
  have e := Int.mul_ediv_add_emod U Y1
  have l := Int.emod_nonneg U (show Y1 ≠ 0 by omega)
  have k := Int.emod_lt_of_pos U (show 0 < Y1 by omega)
  have c : U / Y1 * Y1 = Y1 * (U / Y1) := Int.mul_comm _ _
  refine ⟨Int.ediv_nonneg u0 (by omega), ?_, by omega, by omega, rfl, ?_⟩
  · have : U / Y1 < 8589934592 := Int.ediv_lt_of_lt_mul (by omega) (by omega)
    omega
  · have hb := h.below
    have hy := h.y
    have d0 := h.d0
    have s : D * Y = D * Y1 * 4294967296 + D * Y0 := by rw [hy, Int.mul_add, ← Int.mul_assoc]
    have t : 0 ≤ D * Y0 := Int.mul_nonneg d0 h.y00
    have v1 := h.v1
    have : D * Y1 ≤ U := by omega
    exact Int.le_ediv_of_mul_le (by omega) this
theorem Guess.found (h : Halves U V Y Y1 Y0 D) (g : Guess U V Y1 Y0 D q r) (hl : q * Y0 ≤ 4294967296 * r + V) : q = D := by
  have p := h.parts g
  have := h.le_of (q := q) (by omega)
  have := g.low
  omega
theorem Guess.pos (h : Halves U V Y Y1 Y0 D) (hl : 4294967296 ≤ q ∨ 4294967296 * r + V < q * Y0) (g : Guess U V Y1 Y0 D q r) : D ≤ q - 1 := by
  rcases hl with hl | hl
  · have := h.d1; omega
  · have p := h.parts g
    have := h.lt_of (q := q) (by omega)
    omega
theorem Guess.step (h : Halves U V Y Y1 Y0 D) (hl : D ≤ q - 1) (g : Guess U V Y1 Y0 D q r) (hr : r + Y1 < 4294967296) : Guess U V Y1 Y0 D (q - 1) (r + Y1) := by
  obtain ⟨q0, q1, r0, r1, rest, low⟩ := g
  have := h.d0
  have := h.y10
  refine ⟨by omega, by omega, by omega, hr, ?_, hl⟩
  rw [Int.sub_mul]; omega
theorem Guess.last (h : Halves U V Y Y1 Y0 D) (hl : D ≤ q - 1) (g : Guess U V Y1 Y0 D q r) (hr : 4294967296 ≤ r + Y1) : q - 1 = D := by
  have rest := g.rest
  have hU : U < Y1 * 4294967296 + 4294967296 := by have := h.y; have := h.u1; have := h.y01; omega
  have y10 := h.y10
  have d0 := h.d0
  have v0 := h.v0
  have y00 := h.y00
  have e1 : (q - 1) * Y1 = U - (r + Y1) := by rw [Int.sub_mul]; omega
  have hq : q - 1 < 4294967296 := by
    rcases Int.lt_or_le (q - 1) 4294967296 with k | k
    · exact k
    · have : 4294967296 * Y1 ≤ (q - 1) * Y1 := Int.mul_le_mul_of_nonneg_right k (by omega)
      omega
  have e2 : (q - 1) * Y = (U - (r + Y1)) * 4294967296 + (q - 1) * Y0 := by rw [h.y, Int.mul_add, ← Int.mul_assoc, e1]
  have e3 : (q - 1) * Y0 ≤ (q - 1) * 4294967296 := Int.mul_le_mul_of_nonneg_left (by have := h.y01; omega) (by omega)
  have e4 := h.le_of (q := q - 1) (by omega)
  omega
theorem Guess.prod (h : Halves U V Y Y1 Y0 D) (g : Guess U V Y1 Y0 D q r) (hq : q < 4294967296) : 0 ≤ q * Y0 ∧ q * Y0 ≤ 18446744065119617025 := by
  have h1 : q * Y0 ≤ 4294967295 * Y0 := Int.mul_le_mul_of_nonneg_right (by omega) h.y00
  have := h.y01
  exact ⟨Int.mul_nonneg g.q0 h.y00, by omega⟩
/-- What is left behind the digit, in words that wrap. -/
theorem Halves.left (h : Halves U V Y Y1 Y0 D) :
    IntKind.u64.wrap (IntKind.u64.wrap (IntKind.u64.wrap (U * 4294967296) + V) - IntKind.u64.wrap (D * Y)) = (U * 4294967296 + V) % Y := by
  have e := Int.mul_ediv_add_emod (U * 4294967296 + V) Y
  rw [← h.d, Int.mul_comm Y D] at e
  have y10 := h.y10; have y00 := h.y00; have y11 := h.y11; have y01 := h.y01; have hy := h.y
  have l := Int.emod_nonneg (U * 4294967296 + V) (show Y ≠ 0 by omega)
  have k := Int.emod_lt_of_pos (U * 4294967296 + V) (show 0 < Y by omega)
  simp only [IntKind.wrap_u64]
  generalize (U * 4294967296 + V) % Y = z at *
  generalize D * Y = t at *
  omega
end

theorem join_words (h t i : Nat) (ht : t < 2 ^ i) : h * 2 ^ i ||| t = h * 2 ^ i + t := nat_join i (h * 2 ^ i) t (Nat.mul_mod_left _ _) ht
/-- Divisor and dividend, moved to the left till the divisor's highest bit is set. -/
theorem moved_nat (h l y : Nat) (h1 : h < y) (l1 : l < 18446744073709551616) (y1 : y < 18446744073709551616) :
    ∃ s : Nat, s ≤ 63 ∧ Lib.bitLen y + s = 64 ∧ 9223372036854775808 ≤ y * 2 ^ s ∧ y * 2 ^ s < 18446744073709551616 ∧ l / 2 ^ (64 - s) < 2 ^ s ∧ h * 2 ^ s + l / 2 ^ (64 - s) < y * 2 ^ s ∧
      (h * 2 ^ s + l / 2 ^ (64 - s)) * 18446744073709551616 + l * 2 ^ s % 18446744073709551616 = (h * 18446744073709551616 + l) * 2 ^ s := by
  obtain ⟨b1, b2, b3⟩ := Lib.bitLenAux_bounds 64 y (by omega) (by omega)
  have b4 : Lib.bitLenAux 64 y ≤ 64 := by
    rcases Nat.lt_or_ge 64 (Lib.bitLenAux 64 y) with k | k
    · have : 2 ^ 64 ≤ 2 ^ (Lib.bitLenAux 64 y - 1) := Nat.pow_le_pow_right (by omega) (by omega)
      omega
    · exact k
  have b5 : Lib.bitLen y = Lib.bitLenAux 64 y := rfl
  generalize Lib.bitLenAux 64 y = n at *
  have e1 : 2 ^ (n - 1) * 2 ^ (64 - n) = 9223372036854775808 := by rw [← Nat.pow_add, show n - 1 + (64 - n) = 63 by omega]
  have e2 : 2 ^ n * 2 ^ (64 - n) = 18446744073709551616 := by rw [← Nat.pow_add, show n + (64 - n) = 64 by omega]
  have e3 : 2 ^ (64 - (64 - n)) * 2 ^ (64 - n) = 18446744073709551616 := by rw [show 64 - (64 - n) = n by omega]; exact e2
  have p0 : 0 < 2 ^ (64 - n) := Nat.pow_pos (by omega)
  have p1 : 0 < 2 ^ (64 - (64 - n)) := Nat.pow_pos (by omega)
  have m1 := Nat.mul_le_mul_right (2 ^ (64 - n)) b2
  have m2 := Nat.mul_lt_mul_of_pos_right b3 p0
  have m3 := Nat.mul_le_mul_right (2 ^ (64 - n)) (show h + 1 ≤ y from h1)
  refine ⟨64 - n, by omega, by omega, by omega, by omega, ?_, ?_, ?_⟩
  · exact Nat.div_lt_of_lt_mul (by omega)
  · have : l / 2 ^ (64 - (64 - n)) < 2 ^ (64 - n) := Nat.div_lt_of_lt_mul (by omega)
    rw [Nat.add_mul] at m3; omega
  · have d := Nat.div_add_mod l (2 ^ (64 - (64 - n)))
    have r := Nat.mod_lt l p1
    have m4 := Nat.mul_lt_mul_of_pos_right r p0
    generalize 2 ^ (64 - (64 - n)) = A at *
    generalize 2 ^ (64 - n) = P at *
    generalize l / A = t at *
    generalize l % A = m at *
    have e4 : l * P = t * 18446744073709551616 + m * P := by
      rw [← d, Nat.add_mul, Nat.mul_comm A t, Nat.mul_assoc, e3]
    have e5 : l * P % 18446744073709551616 = m * P := by omega
    rw [e5, Nat.add_mul, Nat.add_mul, e4, Nat.mul_right_comm]
    omega
theorem moved (hi lo y : Int) (k0 : 0 < hi) (k1 : hi < y) (l0 : 0 ≤ lo) (l1 : lo ≤ 18446744073709551615) (y1 : y ≤ 18446744073709551615) :
    ∃ (s : Nat) (P Y U V : Int), s ≤ 63 ∧ 64 - (Lib.bitLen y.toNat : Int) = s ∧ (2 : Int) ^ s = P ∧ IntKind.u64.wrap (y * P) = Y ∧ bits .or .u64 (IntKind.u64.wrap (hi * P)) (lo / 2 ^ (64 - s)) = U ∧
      IntKind.u64.wrap (lo * P) = V ∧ Y = y * P ∧ 0 < P ∧ 9223372036854775808 ≤ Y ∧ Y < 18446744073709551616 ∧ 0 ≤ U ∧ U < Y ∧ 0 ≤ V ∧ V < 18446744073709551616 ∧ U * 18446744073709551616 + V = (hi * 18446744073709551616 + lo) * P := by
  obtain ⟨h, rfl⟩ := Int.eq_ofNat_of_zero_le (show 0 ≤ hi by omega)
  obtain ⟨l, rfl⟩ := Int.eq_ofNat_of_zero_le l0
  obtain ⟨y, rfl⟩ := Int.eq_ofNat_of_zero_le (show 0 ≤ y by omega)
  obtain ⟨s, s1, s2, s3, s4, s5, s6, s7⟩ := moved_nat h l y (by omega) (by omega) (by omega)
  have hp : (2 : Int) ^ s = ((2 ^ s : Nat) : Int) := by simp
  have hq : (2 : Int) ^ (64 - s) = ((2 ^ (64 - s) : Nat) : Int) := by simp
  have w1 : IntKind.u64.wrap ((y : Int) * (2 ^ s : Nat)) = ((y * 2 ^ s : Nat) : Int) := by
    rw [← Int.natCast_mul, IntKind.wrap_u64]; omega
  have hh : h * 2 ^ s < 18446744073709551616 := Nat.lt_of_le_of_lt (Nat.le_add_right _ _) (Nat.lt_trans s6 s4)
  have w2 : IntKind.u64.wrap ((h : Int) * (2 ^ s : Nat)) = ((h * 2 ^ s : Nat) : Int) := by
    rw [← Int.natCast_mul, IntKind.wrap_u64]; omega
  have w3 : IntKind.u64.wrap ((l : Int) * (2 ^ s : Nat)) = ((l * 2 ^ s % 18446744073709551616 : Nat) : Int) := by
    rw [← Int.natCast_mul, IntKind.wrap_u64]; omega
  have w4 : (l : Int) / ((2 ^ (64 - s) : Nat) : Int) = ((l / 2 ^ (64 - s) : Nat) : Int) := (Int.natCast_ediv _ _).symm
  have hl : l / 2 ^ (64 - s) < 18446744073709551616 := Nat.lt_of_le_of_lt (Nat.div_le_self _ _) (by omega)
  have hpos : 0 < 2 ^ s := Nat.pow_pos (by omega)
  have hs : 64 - (Lib.bitLen (y : Int).toNat : Int) = s := by rw [Int.toNat_natCast]; omega
  refine ⟨s, ((2 ^ s : Nat) : Int), _, _, _, s1, hs, hp, rfl, rfl, rfl, ?_, by omega, ?_⟩
  · rw [w1, Int.natCast_mul]
  rw [hq, w1, w2, w3, w4, bits_or_u64_nat _ _ hh hl, join_words _ _ _ s5]
  refine ⟨by omega, by omega, by omega, by omega, by omega, by omega, ?_⟩
  have s8 := congrArg (fun n : Nat => (n : Int)) s7
  simp only [Int.natCast_add, Int.natCast_mul] at s8 ⊢
  exact s8
/-- The two digits make the quotient, what is left makes the rest. -/
theorem digits {N y P Y U V1 V0 D1 D0 : Int} (hP : 0 < P) (hy : 0 < y) (hY : Y = y * P) (hN : U * 18446744073709551616 + (V1 * 4294967296 + V0) = N * P)
    (h1 : D1 = (U * 4294967296 + V1) / Y) (h0 : D0 = ((U * 4294967296 + V1) % Y * 4294967296 + V0) / Y) :
    D1 * 4294967296 + D0 = N / y ∧ ((U * 4294967296 + V1) % Y * 4294967296 + V0) % Y / P = N % y := by
  have hYp : 0 < Y := by rw [hY]; exact Int.mul_pos hy hP
  have e1 := Int.mul_ediv_add_emod (U * 4294967296 + V1) Y
  rw [← h1] at e1
  generalize (U * 4294967296 + V1) % Y = U' at *
  have e0 := Int.mul_ediv_add_emod (U' * 4294967296 + V0) Y
  have l := Int.emod_nonneg (U' * 4294967296 + V0) (show Y ≠ 0 by omega)
  have k := Int.emod_lt_of_pos (U' * 4294967296 + V0) hYp
  rw [← h0] at e0
  generalize (U' * 4294967296 + V0) % Y = R at *
  have eN : N * P = Y * (D1 * 4294967296 + D0) + R := by
    rw [Int.mul_add, ← Int.mul_assoc]; omega
  have eR : R = (N - y * (D1 * 4294967296 + D0)) * P := by
    rw [Int.sub_mul, Int.mul_right_comm, ← hY]; omega
  have r0 : 0 ≤ N - y * (D1 * 4294967296 + D0) := by
    rcases Int.lt_or_le (N - y * (D1 * 4294967296 + D0)) 0 with c | c
    · have := Int.mul_neg_of_neg_of_pos c hP; omega
    · exact c
  have r1 : N - y * (D1 * 4294967296 + D0) < y := by
    rcases Int.lt_or_le (N - y * (D1 * 4294967296 + D0)) y with c | c
    · exact c
    · have := Int.mul_le_mul_of_nonneg_right c (Int.le_of_lt hP); omega
  have eq : N = (N - y * (D1 * 4294967296 + D0)) + y * (D1 * 4294967296 + D0) := by omega
  constructor
  · rw [eq, Int.add_mul_ediv_left _ _ (by omega), Int.ediv_eq_zero_of_lt r0 r1]; omega
  · rw [eR, Int.mul_ediv_cancel _ (by omega)]
    conv => rhs; rw [eq]
    rw [Int.add_mul_emod_self_left, Int.emod_eq_of_lt r0 r1]
end Go.Proofs.Ytljgfallhnlebaa
