/- What the rounded quotient of a product answers: the walk, for all numbers. -/
import Derived.Test.YtljgfallhnlebaaSafeS
import Derived.Test.YtljgfallhnlebaaDiv
namespace Go.Proofs.Ytljgfallhnlebaa
open Go.RowKit

section
variable (a b c : Int) (up : Bool)
set_option maxRecDepth 100000 in
set_option maxHeartbeats 400000 in
theorem ratio_range (h : c < 1) (w : World) :
    Calls Try.prog 21 #[.int .i64 a, .int .i64 b, .int .i64 c, .bool up] w fun e w' => e = .returned (.tuple #[.int .i64 0, .int .i64 11]) ∧ w = w' := by
  go_enter Try.func21, Try.ntmps21
  go_wp2_with fail
  go_ret2
  exact ⟨rfl, rfl⟩

set_option maxRecDepth 100000 in
set_option maxHeartbeats 400000 in
theorem ratio_far (ha : Fits a) (hb : Fits b) (hc : Fits c) (h : 1 ≤ c) (hh : c ≤ mag a * mag b / 18446744073709551616) (w : World) :
    Calls Try.prog 21 #[.int .i64 a, .int .i64 b, .int .i64 c, .bool up] w fun e w' => e = .returned (.tuple #[.int .i64 0, .int .i64 12]) ∧ w = w' := by
  have Ca := Lib.hid (size_any a ha)
  have Cb := Lib.hid (size_any b hb)
  obtain ⟨a0, a1⟩ := mag_bd ha
  obtain ⟨b0, b1⟩ := mag_bd hb
  have Cm := Lib.hid (mul64_any (mag a) (mag b) ⟨a0, by omega⟩ ⟨b0, by omega⟩)
  have c1 := hc.2
  clear ha hb hc a0 a1 b0 b1
  go_enter Try.func21, Try.ntmps21
  go_wp2_with fail
  refine (Ca.out _).mono ?_; rintro e w' ⟨rfl, rfl⟩
  go_wp2_with fail
  refine (Cb.out _).mono ?_; rintro e w' ⟨rfl, rfl⟩
  go_wp2_with fail
  refine (Cm.out _).mono ?_; rintro e w' ⟨rfl, rfl⟩
  go_wp2_with fail
  go_ret2
  exact ⟨rfl, rfl⟩

/-- The quotient that isn't rounded away from zero. -/
theorem ratio_near (ng : Bool) (q : Int) (ha : Fits a) (hb : Fits b) (hc : Fits c) (h : 1 ≤ c) (hh : mag a * mag b / 18446744073709551616 < c) (hng : (!decide (a < 0) == decide (b < 0)) = ng)
    (hq : mag a * mag b / c = q) (hr : (mag a * mag b % c != 0) = false ∨ ((mag a * mag b % c != 0) = true ∧ ng = up)) (w : World) :
    Calls Try.prog 21 #[.int .i64 a, .int .i64 b, .int .i64 c, .bool up] w fun e w' => e = .returned (.tuple #[.int .i64 (toldV (sided ng q)), .int .i64 (toldE (sided ng q))]) ∧ ∃ n, w.drewN n = w' := by
  have Ca := Lib.hid (size_any a ha)
  have Cb := Lib.hid (size_any b hb)
  have hn := mag_mul_nonneg ha hb
  obtain ⟨a0, a1⟩ := mag_bd ha
  obtain ⟨b0, b1⟩ := mag_bd hb
  have Cm := Lib.hid (mul64_any (mag a) (mag b) ⟨a0, by omega⟩ ⟨b0, by omega⟩)
  have c1 := hc.2
  have cd := div64_any (mag a * mag b / 18446744073709551616) (mag a * mag b % 18446744073709551616) c (by omega) (by omega) (by omega) (by omega) (by omega)
  rw [show mag a * mag b / 18446744073709551616 * 18446744073709551616 + mag a * mag b % 18446744073709551616 = mag a * mag b by omega, hq] at cd
  have q0 : 0 ≤ q := by rw [← hq]; exact Int.ediv_nonneg hn (by omega)
  have q1 : q < 18446744073709551616 := by
    rw [← hq]; exact Int.ediv_lt_of_lt_mul (by omega) (by omega)
  have Cs := Lib.hid (signed_any ng q q0 (by omega))
  have Cd := Lib.hid cd
  clear ha hb hc a0 a1 b0 b1 hq cd hn
  rcases hr with hr | ⟨hr, rfl⟩
  · go_enter Try.func21, Try.ntmps21
    go_wp2_with fail
    refine (Ca.out _).mono ?_; rintro e w' ⟨rfl, rfl⟩
    go_wp2_with fail
    refine (Cb.out _).mono ?_; rintro e w' ⟨rfl, rfl⟩
    go_wp2_with fail
    refine (Cm.out _).mono ?_; rintro e w' ⟨rfl, rfl⟩
    go_wp2_with fail
    refine (Cd.out _).mono ?_; rintro e w' ⟨rfl, n, rfl⟩
    go_wp2_with fail
    refine (Cs.out _).mono ?_; rintro e w' ⟨rfl, rfl⟩
    go_wp2_with fail
    go_ret2
    exact ⟨rfl, n, rfl⟩
  · cases ng
    all_goals
      go_enter Try.func21, Try.ntmps21
      go_wp2_with fail
      refine (Ca.out _).mono ?_; rintro e w' ⟨rfl, rfl⟩
      go_wp2_with fail
      refine (Cb.out _).mono ?_; rintro e w' ⟨rfl, rfl⟩
      go_wp2_with fail
      refine (Cm.out _).mono ?_; rintro e w' ⟨rfl, rfl⟩
      go_wp2_with fail
      refine (Cd.out _).mono ?_; rintro e w' ⟨rfl, n, rfl⟩
      go_wp2_with fail
      refine (Cs.out _).mono ?_; rintro e w' ⟨rfl, rfl⟩
      go_wp2_with fail
      go_ret2
      exact ⟨rfl, n, rfl⟩

/-- The quotient that is rounded away from zero. -/
theorem ratio_away (ng : Bool) (q : Int) (ha : Fits a) (hb : Fits b) (hc : Fits c) (h : 1 ≤ c) (hh : mag a * mag b / 18446744073709551616 < c) (hng : (!decide (a < 0) == decide (b < 0)) = ng)
    (hq : mag a * mag b / c = q) (hr : (mag a * mag b % c != 0) = true) (hu : ng = !up) (w : World) :
    Calls Try.prog 21 #[.int .i64 a, .int .i64 b, .int .i64 c, .bool up] w fun e w' => e = .returned (.tuple #[.int .i64 (toldV (sided ng (q + 1))), .int .i64 (toldE (sided ng (q + 1)))]) ∧ ∃ n, w.drewN n = w' := by
  have Ca := Lib.hid (size_any a ha)
  have Cb := Lib.hid (size_any b hb)
  have hn := mag_mul_nonneg ha hb
  obtain ⟨a0, a1⟩ := mag_bd ha
  obtain ⟨b0, b1⟩ := mag_bd hb
  have Cm := Lib.hid (mul64_any (mag a) (mag b) ⟨a0, by omega⟩ ⟨b0, by omega⟩)
  have c1 := hc.2
  have cd := div64_any (mag a * mag b / 18446744073709551616) (mag a * mag b % 18446744073709551616) c (by omega) (by omega) (by omega) (by omega) (by omega)
  rw [show mag a * mag b / 18446744073709551616 * 18446744073709551616 + mag a * mag b % 18446744073709551616 = mag a * mag b by omega, hq] at cd
  have q0 : 0 ≤ q := by rw [← hq]; exact Int.ediv_nonneg hn (by omega)
  have q1 : q < 18446744073709551616 := by
    rw [← hq]; exact Int.ediv_lt_of_lt_mul (by omega) (by omega)
  have Cd := Lib.hid cd
  by_cases hm : q = 18446744073709551615
  · have hf : ¬ Fits (sided ng (q + 1)) := sided_over (by omega)
    rw [toldV_over hf, toldE_over hf]
    have hm' : (q == 18446744073709551615) = true := by simpa using hm
    clear ha hb hc a0 a1 b0 b1 hq cd hn hf hm q0 q1
    cases up
    all_goals
      rw [hu] at hng; clear hu
      go_enter Try.func21, Try.ntmps21
      go_wp2_with fail
      refine (Ca.out _).mono ?_; rintro e w' ⟨rfl, rfl⟩
      go_wp2_with fail
      refine (Cb.out _).mono ?_; rintro e w' ⟨rfl, rfl⟩
      go_wp2_with fail
      refine (Cm.out _).mono ?_; rintro e w' ⟨rfl, rfl⟩
      go_wp2_with fail
      refine (Cd.out _).mono ?_; rintro e w' ⟨rfl, n, rfl⟩
      go_wp2_with fail
      go_ret2
      exact ⟨rfl, n, rfl⟩
  · have Cs := Lib.hid (signed_any ng (q + 1) (by omega) (by omega))
    have hm' : (q == 18446744073709551615) = false := by simpa using hm
    have q2 : q < 18446744073709551615 := by omega
    clear ha hb hc a0 a1 b0 b1 hq cd hn hm q1
    cases up
    all_goals
      subst hu
      go_enter Try.func21, Try.ntmps21
      go_wp2_with fail
      refine (Ca.out _).mono ?_; rintro e w' ⟨rfl, rfl⟩
      go_wp2_with fail
      refine (Cb.out _).mono ?_; rintro e w' ⟨rfl, rfl⟩
      go_wp2_with fail
      refine (Cm.out _).mono ?_; rintro e w' ⟨rfl, rfl⟩
      go_wp2_with fail
      refine (Cd.out _).mono ?_; rintro e w' ⟨rfl, n, rfl⟩
      go_wp2_with fail
      refine (Cs.out _).mono ?_; rintro e w' ⟨rfl, rfl⟩
      go_wp2_with fail
      go_ret2
      exact ⟨rfl, n, rfl⟩

theorem ratio_any (ha : Fits a) (hb : Fits b) (hc : Fits c) (w : World) :
    Calls Try.prog 21 #[.int .i64 a, .int .i64 b, .int .i64 c, .bool up] w fun e w' => e = .returned (.tuple #[.int .i64 (ratV a b c up), .int .i64 (ratE a b c up)]) ∧ ∃ n, w.drewN n = w' := by
  by_cases h : c < 1
  · rw [show ratV a b c up = 0 from if_pos h, show ratE a b c up = 11 from if_pos h]
    exact (ratio_range a b c up h w).mono fun e w' ⟨he, hw⟩ => ⟨he, 0, hw⟩
  have h1 : 1 ≤ c := by omega
  rw [ratV_in h1, ratE_in h1]
  have hn := mag_mul_nonneg ha hb
  have key : (!decide (a < 0) == decide (b < 0)) = (decide (a < 0) != decide (b < 0)) := rfl
  rcases Int.lt_or_le (mag a * mag b / 18446744073709551616) c with hh | hh
  · by_cases hr : mag a * mag b % c = 0
    · rw [rquo_even (by omega) hr]
      exact ratio_near a b c up _ _ ha hb hc h1 hh key rfl (.inl (by simpa using hr)) w
    · have hr' : (mag a * mag b % c != 0) = true := by simpa using hr
      by_cases hu : (decide (a < 0) != decide (b < 0)) = up
      · rw [rquo_in hu]
        exact ratio_near a b c up _ _ ha hb hc h1 hh key rfl (.inr ⟨hr', hu⟩) w
      · have hu' : (decide (a < 0) != decide (b < 0)) = !up := by revert hu; cases (decide (a < 0) != decide (b < 0)) <;> cases up <;> simp
        rw [rquo_out (by omega) hr hu']
        exact ratio_away a b c up _ _ ha hb hc h1 hh key rfl hr' hu' w
  · have hbig : 18446744073709551616 ≤ mag a * mag b / c := Int.le_ediv_of_mul_le (by omega) (by omega)
    have hf : ¬ Fits (rquo a b c up) := by
      by_cases hr : mag a * mag b % c = 0
      · rw [rquo_even (by omega) hr]; exact sided_over hbig
      · by_cases hu : (decide (a < 0) != decide (b < 0)) = up
        · rw [rquo_in hu]; exact sided_over hbig
        · have hu' : (decide (a < 0) != decide (b < 0)) = !up := by revert hu; cases (decide (a < 0) != decide (b < 0)) <;> cases up <;> simp
          rw [rquo_out (by omega) hr hu']; exact sided_over (by omega)
    rw [toldV_over hf, toldE_over hf]
    exact (ratio_far a b c up ha hb hc h1 hh w).mono fun e w' ⟨he, hw⟩ => ⟨he, 0, hw⟩
end
end Go.Proofs.Ytljgfallhnlebaa
