/- What the document's own sums, differences, products and ratios of longs answer. -/
import Derived.Test.YtncankjgmchckaaRefG
import Derived.Test.YtncankjgmchckaaRatio
namespace Go.Proofs.Ytncankjgmchckaa
open Go.RowKit

theorem mulN_any (r u : Value) (x y : Int) (w : World) (L : Nat) (hx : NumV w r x) (hy : NumV w u y) (lx : mag x < 65536 ^ L) (ly : mag y < 65536 ^ L) (hL : L ≤ 1000) :
    Calls Try.prog 29 #[r, u] w (GivesN w (x * y)) := by
  obtain ⟨s, A, n, c, rfl, hs, xs, ha, hxn, hxv⟩ := hx.form
  obtain ⟨t, A', n', c', rfl, ht, ys, hb, hyn, hyv⟩ := hy.form
  obtain ⟨A1, c1, e⟩ := ha.1.len
  injection e with e1 e2 e3
  subst e2
  obtain ⟨A2, c2, e⟩ := hb.1.len
  injection e with e1 e2 e3
  subst e2
  have l1 := hxn.len ha.2 (by rw [hxv]; exact lx)
  have l2 := hyn.len hb.2 (by rw [hyv]; exact ly)
  have h := mul_rows s t A A' c c' xs ys w ha hb (by omega) (by omega)
  rw [hxv, hyv, hs.out, ht.out, ← mag_mul] at h
  rw [hs.out, ht.out]
  exact h
/-- A number divided, down or up. -/
def divI (x n : Int) (up : Bool) : Int := if up then -((-x) / n) else x / n
theorem divI_mul (a b c : Int) (up : Bool) : divI (a * b) c up = rquo a b c up := rfl
theorem away_div {x n : Int} (hn : 0 < n) (up : Bool) : sided (decide (x < 0)) (awayQ (mag x) n (decide (x < 0)) up) = divI x n up := by
  by_cases hx : x < 0
  · obtain ⟨m, rfl⟩ : ∃ m, x = -m := ⟨-x, by omega⟩
    have hm : 0 < m := by omega
    rw [mag_neg hx, decide_eq_true hx, Int.neg_neg]
    unfold awayQ divI
    by_cases hr : m % n = 0
    · have e := neg_div_exact hn hr
      cases up <;> simp [hr, sided, e]
    · have e := neg_div_over hn hr
      cases up <;> simp [hr, sided, e]
  · rw [mag_pos hx, decide_eq_false hx]
    unfold awayQ divI
    by_cases hr : x % n = 0
    · have e := neg_div_exact hn hr
      cases up <;> simp [hr, sided, e]
    · have e := neg_div_over hn hr
      cases up <;> simp [hr, sided, e]
theorem divN_any (r u : Value) (x n : Int) (up : Bool) (w : World) (L : Nat) (hx : NumV w r x) (hy : NumV w u n) (lx : mag x < 65536 ^ L) (hn : 0 < n) (ln : n < 65536 ^ L) (hL : L ≤ 1000) :
    Calls Try.prog 33 #[r, u, .bool up] w (GivesN w (divI x n up)) := by
  obtain ⟨s, A, k, c, rfl, hs, xs, ha, hxn, hxv⟩ := hx.form
  obtain ⟨t, A', k', c', rfl, ht, hb⟩ := hy.form
  obtain ⟨A1, c1, e⟩ := ha.1.len
  injection e with e1 e2 e3
  subst e2
  rw [mag_pos (by omega)] at hb
  have l1 := hxn.len ha.2 (by rw [hxv]; exact lx)
  have h := div_rows s t up A A' c c' k' xs n w L ha hb (by omega) (by rw [hxv]; exact lx) hn ln hL
  rw [hxv, hs.out, away_div hn] at h
  rw [hs.out]
  exact h
theorem mag_long {x : Int} (h : Fits x) : mag x < 65536 ^ 4 := by rw [pow4]; have := mag_bd h; omega
theorem pow8 : (65536 : Int) ^ 8 = 340282366920938463463374607431768211456 := by decide
theorem mag_prod {a b : Int} (ha : Fits a) (hb : Fits b) : mag (a * b) < 65536 ^ 8 := by
  have h1 := mag_bd ha
  have h2 := mag_bd hb
  have e : mag (a * b) = mag a * mag b := by
    rw [mag_mul]
    have := mag_mul_nonneg ha hb
    generalize mag a * mag b = m at *
    unfold mag sided
    cases (decide (a < 0) != decide (b < 0)) <;> simp <;> omega
  have h3 : mag a * mag b ≤ 9223372036854775808 * mag b := Int.mul_le_mul_of_nonneg_right h1.2 h2.1
  rw [e, pow8]; omega
/-- What is told of a number. -/
def Told (x : Int) (w : World) (e : Ending) (w' : World) : Prop := e = .returned (.tuple #[.int .i64 (toldV x), .int .i64 (toldE x)]) ∧ Below w.heap.size w w'

set_option maxHeartbeats 1000000 in
theorem refPlus_any (a b : Int) (ha : Fits a) (hb : Fits b) (w : World) : Calls Try.prog 12 #[.int .i64 a, .int .i64 b] w (Told (a + b) w) := by
  have H1 := Lib.hid ha
  have H2 := Lib.hid hb
  clear ha hb
  go_enter Try.func12, Try.ntmps12
  go_wp2_with fail
  refine (of_any a w H1.out).mono ?_; rintro e w1 ⟨r1, rfl, hr1, hb1⟩
  go_wp2_with fail
  refine (of_any b w1 H2.out).mono ?_; rintro e w2 ⟨r2, rfl, hr2, hb2⟩
  go_wp2_with fail
  refine (addN_any r1 r2 a b w2 4 (hr1.below hb2) hr2 (mag_long H1.out) (mag_long H2.out) (by omega)).mono ?_; rintro e w3 ⟨r3, rfl, hr3, hb3⟩
  go_wp2_with fail
  refine (told_any r3 (a + b) w3 8 hr3 (by have := H1.out; have := H2.out; rw [pow8]; unfold Fits at *; unfold mag; split <;> omega)).mono ?_; rintro e w4 ⟨rfl, hb4⟩
  have hz := hb1.trans (((hb2.trans (hb3.mono hb2.size)).trans (hb4.mono (Nat.le_trans hb2.size hb3.size))).mono hb1.size)
  clear hr1 hr2 hr3 hb1 hb2 hb3 hb4
  go_wp2_with fail
  go_ret2
  exact ⟨rfl, hz⟩

set_option maxHeartbeats 1000000 in
theorem refMinus_any (a b : Int) (ha : Fits a) (hb : Fits b) (w : World) : Calls Try.prog 13 #[.int .i64 a, .int .i64 b] w (Told (a - b) w) := by
  have H1 := Lib.hid ha
  have H2 := Lib.hid hb
  have hm : mag (-b) < 65536 ^ 4 := by
    have := mag_long hb
    have e : mag (-b) = mag b := by unfold mag; split <;> split <;> omega
    rw [e]; exact this
  have HM := Lib.hid hm
  clear ha hb hm
  go_enter Try.func13, Try.ntmps13
  go_wp2_with fail
  refine (of_any a w H1.out).mono ?_; rintro e w1 ⟨r1, rfl, hr1, hb1⟩
  go_wp2_with fail
  refine (of_any b w1 H2.out).mono ?_; rintro e w2 ⟨r2, rfl, hr2, hb2⟩
  go_wp2_with fail
  refine (neg_any r2 b w2 4 hr2 (mag_long H2.out) (by omega)).mono ?_; rintro e w3 ⟨r3, rfl, hr3, hb3⟩
  go_wp2_with fail
  refine (addN_any r1 r3 a (-b) w3 4 ((hr1.below hb2).below hb3) hr3 (mag_long H1.out) HM.out (by omega)).mono ?_; rintro e w4 ⟨r4, rfl, hr4, hb4⟩
  go_wp2_with fail
  refine (told_any r4 (a + -b) w4 8 hr4 (by have := H1.out; have := H2.out; rw [pow8]; unfold Fits at *; unfold mag; split <;> omega)).mono ?_; rintro e w5 ⟨rfl, hb5⟩
  have hz := hb1.trans ((((hb2.trans (hb3.mono hb2.size)).trans (hb4.mono (Nat.le_trans hb2.size hb3.size))).trans (hb5.mono (Nat.le_trans hb2.size (Nat.le_trans hb3.size hb4.size)))).mono hb1.size)
  have HE : Hid (a + -b = a - b) := Lib.hid (by omega)
  clear hr1 hr2 hr3 hr4 hb1 hb2 hb3 hb4 hb5
  go_wp2_with fail
  go_ret2
  exact ⟨ret_two (by rw [← HE.out]) (by rw [← HE.out]), hz⟩

set_option maxHeartbeats 1000000 in
theorem refTimes_any (a b : Int) (ha : Fits a) (hb : Fits b) (w : World) : Calls Try.prog 14 #[.int .i64 a, .int .i64 b] w (Told (a * b) w) := by
  have H1 := Lib.hid ha
  have H2 := Lib.hid hb
  clear ha hb
  go_enter Try.func14, Try.ntmps14
  go_wp2_with fail
  refine (of_any a w H1.out).mono ?_; rintro e w1 ⟨r1, rfl, hr1, hb1⟩
  go_wp2_with fail
  refine (of_any b w1 H2.out).mono ?_; rintro e w2 ⟨r2, rfl, hr2, hb2⟩
  go_wp2_with fail
  refine (mulN_any r1 r2 a b w2 4 (hr1.below hb2) hr2 (mag_long H1.out) (mag_long H2.out) (by omega)).mono ?_; rintro e w3 ⟨r3, rfl, hr3, hb3⟩
  go_wp2_with fail
  refine (told_any r3 (a * b) w3 8 hr3 (mag_prod H1.out H2.out)).mono ?_; rintro e w4 ⟨rfl, hb4⟩
  have hz := hb1.trans (((hb2.trans (hb3.mono hb2.size)).trans (hb4.mono (Nat.le_trans hb2.size hb3.size))).mono hb1.size)
  clear hr1 hr2 hr3 hb1 hb2 hb3 hb4
  go_wp2_with fail
  go_ret2
  exact ⟨rfl, hz⟩

theorem mag_sided {neg : Bool} {q : Int} (h : 0 ≤ q) : mag (sided neg q) = q := by
  unfold mag sided; cases neg <;> simp <;> omega
theorem mag_rquo {a b c : Int} (up : Bool) (ha : Fits a) (hb : Fits b) (hc : 1 ≤ c) : mag (rquo a b c up) < 65536 ^ 8 := by
  have hn := mag_mul_nonneg ha hb
  have h1 := mag_bd ha
  have h2 := mag_bd hb
  have h3 : mag a * mag b ≤ 9223372036854775808 * mag b := Int.mul_le_mul_of_nonneg_right h1.2 h2.1
  have q0 : 0 ≤ mag a * mag b / c := Int.ediv_nonneg hn (by omega)
  have q1 := Int.ediv_le_self c hn
  rw [pow8]
  by_cases hr : mag a * mag b % c = 0
  · rw [rquo_even (by omega) hr, mag_sided q0]; omega
  · by_cases hu : (decide (a < 0) != decide (b < 0)) = up
    · rw [rquo_in hu, mag_sided q0]; omega
    · have hu' : (decide (a < 0) != decide (b < 0)) = !up := by revert hu; cases (decide (a < 0) != decide (b < 0)) <;> cases up <;> simp
      rw [rquo_out (by omega) hr hu', mag_sided (by omega)]; omega
/-- What a ratio of longs answers. -/
def ToldR (a b c : Int) (up : Bool) (w : World) (e : Ending) (w' : World) : Prop := e = .returned (.tuple #[.int .i64 (ratV a b c up), .int .i64 (ratE a b c up)]) ∧ Below w.heap.size w w'

set_option maxHeartbeats 1000000 in
theorem refRatio_any (a b c : Int) (up : Bool) (ha : Fits a) (hb : Fits b) (hc : Fits c) (w : World) : Calls Try.prog 20 #[.int .i64 a, .int .i64 b, .int .i64 c, .bool up] w (ToldR a b c up w) := by
  by_cases h : c < 1
  · have E1 : Hid (ratV a b c up = 0) := Lib.hid (if_pos h)
    have E2 : Hid (ratE a b c up = 11) := Lib.hid (if_pos h)
    clear ha hb hc
    go_enter Try.func20, Try.ntmps20
    go_wp2_with fail
    go_ret2
    exact ⟨ret_two E1.out.symm E2.out.symm, Below.refl _ _⟩
  · have h1 : 1 ≤ c := by omega
    have E1 := Lib.hid (ratV_in (a := a) (b := b) (up := up) h1)
    have E2 := Lib.hid (ratE_in (a := a) (b := b) (up := up) h1)
    have H1 := Lib.hid ha
    have H2 := Lib.hid hb
    have H3 := Lib.hid hc
    have hcl : c < 65536 ^ 8 := by rw [pow8]; unfold Fits at hc; omega
    have HCL := Lib.hid hcl
    have HR := Lib.hid (mag_rquo up ha hb h1)
    clear ha hb hc hcl
    go_enter Try.func20, Try.ntmps20
    go_wp2_with fail
    refine (of_any a w H1.out).mono ?_; rintro e w1 ⟨r1, rfl, hr1, hb1⟩
    go_wp2_with fail
    refine (of_any b w1 H2.out).mono ?_; rintro e w2 ⟨r2, rfl, hr2, hb2⟩
    go_wp2_with fail
    refine (mulN_any r1 r2 a b w2 4 (hr1.below hb2) hr2 (mag_long H1.out) (mag_long H2.out) (by omega)).mono ?_; rintro e w3 ⟨r3, rfl, hr3, hb3⟩
    go_wp2_with fail
    refine (of_any c w3 H3.out).mono ?_; rintro e w4 ⟨r4, rfl, hr4, hb4⟩
    go_wp2_with fail
    refine (divN_any r3 r4 (a * b) c up w4 8 (hr3.below hb4) hr4 (mag_prod H1.out H2.out) (by omega) HCL.out (by omega)).mono ?_; rintro e w5 ⟨r5, rfl, hr5, hb5⟩
    go_wp2_with fail
    refine (told_any r5 (rquo a b c up) w5 8 hr5 HR.out).mono ?_; rintro e w6 ⟨rfl, hb6⟩
    have s1 := hb1.size
    have s2 := hb2.size
    have s3 := hb3.size
    have s4 := hb4.size
    have s5 := hb5.size
    have hz := ((((hb1.trans (hb2.mono s1)).trans (hb3.mono (by omega))).trans (hb4.mono (by omega))).trans (hb5.mono (by omega))).trans (hb6.mono (by omega))
    clear hr1 hr2 hr3 hr4 hr5 hb1 hb2 hb3 hb4 hb5 hb6
    go_wp2_with fail
    go_ret2
    exact ⟨ret_two E1.out.symm E2.out.symm, hz⟩
end Go.Proofs.Ytncankjgmchckaa
