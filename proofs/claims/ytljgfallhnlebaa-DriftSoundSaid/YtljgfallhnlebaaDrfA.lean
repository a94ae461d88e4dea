/- Package drift: isRate, isTime, canFollow, Low, High, Slack, walked. -/
import Derived.Test.YtljgfallhnlebaaRatio
import Derived.Test.YtljgfallhnlebaaDrift
import Derived.Test.YtljgfallhnlebaaPairs
import Derived.Lib.MinMax
import Derived.Lib.SmallJoins
namespace Go.Proofs.Ytljgfallhnlebaa
open Go.RowKit

set_option maxRecDepth 100000 in
set_option maxHeartbeats 400000 in
theorem dRate_any (r : Int) (w : World) :
    Calls Try.prog 20 #[.int .i64 r] w fun e w' => e = .returned (.bool (rateB r)) ∧ w = w' := by
  by_cases h0 : 0 ≤ r
  · by_cases h1 : r ≤ 100000
    · rw [rate_iff.2 ⟨h0, h1⟩]
      go_enter Try.func20, Try.ntmps20
      go_wp2
      go_ret
      exact ⟨rfl, rfl⟩
    · have e : rateB r = false := by cases hb : rateB r with
        | false => rfl
        | true => exact absurd (rate_iff.1 hb).2 h1
      rw [e]
      go_enter Try.func20, Try.ntmps20
      go_wp2
      go_ret
      exact ⟨rfl, rfl⟩
  · have e : rateB r = false := by cases hb : rateB r with
      | false => rfl
      | true => exact absurd (rate_iff.1 hb).1 h0
    rw [e]
    go_enter Try.func20, Try.ntmps20
    go_wp2
    go_ret
    exact ⟨rfl, rfl⟩

/-- Is a number a time? -/
def isTimeB (t : Int) : Bool := decide (0 ≤ t ∧ t ≤ 4611686018427387903)
theorem timeB_two (p : Int × Int) : timeB p = (isTimeB p.1 && isTimeB p.2) := by
  unfold timeB isTimeB
  rw [Bool.eq_iff_iff, Bool.and_eq_true, decide_eq_true_iff, decide_eq_true_iff, decide_eq_true_iff]
  omega

set_option maxRecDepth 100000 in
set_option maxHeartbeats 400000 in
theorem dTime_any (t : Int) (w : World) :
    Calls Try.prog 43 #[.int .i64 t] w fun e w' => e = .returned (.bool (isTimeB t)) ∧ w = w' := by
  by_cases h0 : 0 ≤ t
  · by_cases h1 : t ≤ 4611686018427387903
    · rw [show isTimeB t = true from decide_eq_true ⟨h0, h1⟩]
      go_enter Try.func43, Try.ntmps43
      go_wp2
      go_ret
      exact ⟨rfl, rfl⟩
    · rw [show isTimeB t = false from decide_eq_false fun h => h1 h.2]
      go_enter Try.func43, Try.ntmps43
      go_wp2
      go_ret
      exact ⟨rfl, rfl⟩
  · rw [show isTimeB t = false from decide_eq_false fun h => h0 h.1]
    go_enter Try.func43, Try.ntmps43
    go_wp2
    go_ret
    exact ⟨rfl, rfl⟩

set_option maxRecDepth 100000 in
set_option maxHeartbeats 400000 in
theorem dFollow_any (a b c d : Int) (w : World) :
    Calls Try.prog 44 #[.agg #[.int .i64 a, .int .i64 b], .agg #[.int .i64 c, .int .i64 d]] w fun e w' => e = .returned (.bool (followB (a, b) (c, d))) ∧ Below w.heap.size w w' := by
  by_cases h : a = c
  · have e : Hid (decide (b = d) = followB (a, b) (c, d)) := Lib.hid (by unfold followB; rw [if_pos h])
    have h' : (a == c) = true := by simpa using h
    replace h := Lib.hid h
    generalize followB (a, b) (c, d) = r at e
    go_enter Try.func44, Try.ntmps44
    go_wp2
    exact bodyPost_ret (v := .bool (b == d)) (by simp [results, Try.results44, go_sem]) rfl ⟨by rw [← e.out]; rfl, grew2 _ _ _⟩
  · have e : Hid (decide (b ≤ d) = followB (a, b) (c, d)) := Lib.hid (by unfold followB; rw [if_neg h])
    have h' : (a == c) = false := by simpa using h
    replace h := Lib.hid h
    generalize followB (a, b) (c, d) = r at e
    go_enter Try.func44, Try.ntmps44
    go_wp2
    exact bodyPost_ret (v := .bool (decide (b ≤ d))) (by simp [results, Try.results44, go_sem]) rfl ⟨by rw [← e.out], grew2 _ _ _⟩

theorem rat_fit {a b c : Int} {up : Bool} (hc : 1 ≤ c) (hf : Fits (rquo a b c up)) : ratV a b c up = rquo a b c up ∧ ratE a b c up = 0 := by
  rw [ratV_in hc, ratE_in hc, toldV_fit hf, toldE_fit hf]
  exact ⟨rfl, rfl⟩

set_option maxRecDepth 100000 in
set_option maxHeartbeats 400000 in
theorem dLow_any (x r : Int) (_hx : Fits x) (_hr : Fits r) (w : World) :
    Calls Try.prog 9 #[.int .i64 x, .int .i64 r] w fun e w' => TwoE (lowP x r) e ∧ Below w.heap.size w w' := by
  have CR := Lib.hid (dRate_any r)
  by_cases h : farB x = true ∨ rateB r = false
  · have e : Hid (lowP x r = (0, 11)) := Lib.hid (if_pos h)
    generalize lowP x r = s at e
    by_cases h1 : x < -4611686018427387904
    · go_enter Try.func9, Try.ntmps9
      go_wp2
      go_ret2
      exact ⟨by rw [e.out]; rfl, Below.refl _ _⟩
    · by_cases h2 : 4611686018427387904 < x
      · go_enter Try.func9, Try.ntmps9
        go_wp2
        go_ret2
        exact ⟨by rw [e.out]; rfl, Below.refl _ _⟩
      · have hf : farB x = false := far_iff.2 ⟨by omega, by omega⟩
        have hr : rateB r = false := by
          rcases h with h | h
          · rw [hf] at h; cases h
          · exact h
        rw [hr] at CR
        clear h hf hr
        go_enter Try.func9, Try.ntmps9
        go_wp2_with fail
        refine (CR.out _).mono ?_; rintro e w' ⟨rfl, rfl⟩
        go_wp2_with fail
        go_ret2
        exact ⟨by rw [e.out]; rfl, Below.refl _ _⟩
  · have e : Hid (lowP x r = (lowQ x r, 0)) := Lib.hid (if_neg h)
    have hf : farB x = false := by cases hb : farB x with
      | false => rfl
      | true => exact absurd (Or.inl hb) h
    have hr1 : rateB r = true := by cases hb : rateB r with
      | true => rfl
      | false => exact absurd (Or.inr hb) h
    obtain ⟨r0, r1⟩ := rate_iff.1 hr1
    obtain ⟨x0, x1⟩ := far_iff.1 hf
    have h1 : ¬ x < -4611686018427387904 := by omega
    have h2 : ¬ 4611686018427387904 < x := by omega
    have hq := lowQ_fits hf r0 r1
    have w1 : wrap64 (1000000 + r) = 1000000 + r := wrap_of_fits (by unfold Fits; omega)
    have w2 : wrap64 (1000000 - r) = 1000000 - r := wrap_of_fits (by unfold Fits; omega)
    rw [hr1] at CR
    generalize lowP x r = s at e
    by_cases hp : 0 < x
    · have w3 : wrap64 (x - 1) = x - 1 := wrap_of_fits (by unfold Fits; omega)
      have hb := upq_bd hp r0
      obtain ⟨k1, k2⟩ := rat_fit (a := x - 1) (b := 1000000) (c := 1000000 + r) (up := true) (by omega) (by unfold Fits; omega)
      have C := Lib.hid (ratio_any (x - 1) 1000000 (1000000 + r) true (by unfold Fits; omega) (by decide) (by unfold Fits; omega))
      have hl : Hid (max 1 (rquo (x - 1) 1000000 (1000000 + r) true) = lowQ x r) := Lib.hid (by unfold lowQ; rw [if_pos hp])
      rw [k1, k2] at C
      clear k1 k2 hb h hf hr1 hq
      generalize lowQ x r = q at *
      generalize rquo (x - 1) 1000000 (1000000 + r) true = t at *
      go_enter Try.func9, Try.ntmps9
      go_wp2_with fail
      refine (CR.out _).mono ?_; rintro e w' ⟨rfl, rfl⟩
      go_wp2_with fail
      refine (C.out _).mono ?_; rintro e w' ⟨rfl, n, rfl⟩
      go_wp2_with fail
      go_ret2
      exact ⟨by rw [e.out, ← hl.out]; rfl, ⟨rfl, rfl, rfl, Nat.le_refl _, fun _ _ => rfl⟩⟩
    · have w3 : wrap64 (1 - x) = 1 - x := wrap_of_fits (by unfold Fits; omega)
      have hb := downq_bd (show x ≤ 0 by omega) r0 r1
      have hl : Hid (-(rquo (1 - x) 1000000 (1000000 - r) false) = lowQ x r) := Lib.hid (by unfold lowQ; rw [if_neg hp])
      obtain ⟨k1, k2⟩ := rat_fit (a := 1 - x) (b := 1000000) (c := 1000000 - r) (up := false) (by omega) (by unfold Fits; omega)
      have C := Lib.hid (ratio_any (1 - x) 1000000 (1000000 - r) false (by unfold Fits; omega) (by decide) (by unfold Fits; omega))
      have w4 : wrap64 (-(rquo (1 - x) 1000000 (1000000 - r) false)) = -(rquo (1 - x) 1000000 (1000000 - r) false) := wrap_of_fits (by unfold Fits; omega)
      rw [k1, k2] at C
      clear k1 k2 hb h hf hr1 hq
      generalize lowQ x r = q at *
      generalize rquo (1 - x) 1000000 (1000000 - r) false = t at *
      go_enter Try.func9, Try.ntmps9
      go_wp2_with fail
      refine (CR.out _).mono ?_; rintro e w' ⟨rfl, rfl⟩
      go_wp2_with fail
      refine (C.out _).mono ?_; rintro e w' ⟨rfl, n, rfl⟩
      go_wp2_with fail
      go_ret2
      exact ⟨by rw [e.out, ← hl.out]; exact ret_two w4 rfl, ⟨rfl, rfl, rfl, Nat.le_refl _, fun _ _ => rfl⟩⟩

theorem high_low {x r : Int} (hx : Fits x) : highP x r = (-(lowP (wrap64 (-x)) r).1, (lowP (wrap64 (-x)) r).2) ∧ Fits (-(lowP (wrap64 (-x)) r).1) := by
  have hw : farB x = farB (wrap64 (-x)) ∧ (farB x = false → wrap64 (-x) = -x) := by
    unfold farB wrap64
    unfold Fits at hx
    constructor
    · rw [Bool.eq_iff_iff, decide_eq_true_iff, decide_eq_true_iff]; omega
    · intro h
      have := of_decide_eq_false h
      omega
  unfold highP lowP
  rw [← hw.1]
  by_cases h : farB x = true ∨ rateB r = false
  · rw [if_pos h, if_pos h]; exact ⟨rfl, by decide⟩
  · rw [if_neg h, if_neg h]
    have hf : farB x = false := by cases hb : farB x with
      | false => rfl
      | true => exact absurd (Or.inl hb) h
    have hr1 : rateB r = true := by cases hb : rateB r with
      | true => rfl
      | false => exact absurd (Or.inr hb) h
    obtain ⟨r0, r1⟩ := rate_iff.1 hr1
    rw [hw.2 hf]
    have hf2 : farB (-x) = false := far_iff.2 (by have := far_iff.1 hf; omega)
    have := lowQ_fits hf2 r0 r1
    exact ⟨rfl, by unfold Fits; dsimp only; omega⟩

set_option maxRecDepth 100000 in
set_option maxHeartbeats 400000 in
theorem dHigh_any (x r : Int) (hx : Fits x) (hr : Fits r) (w : World) :
    Calls Try.prog 10 #[.int .i64 x, .int .i64 r] w fun e w' => TwoE (highP x r) e ∧ Below w.heap.size w w' := by
  obtain ⟨h1, h2⟩ := high_low (r := r) hx
  have C := Lib.hid (dLow_any (wrap64 (-x)) r (wrap_fits _) hr)
  have w1 := wrap_of_fits h2
  rw [h1]
  unfold TwoE at C ⊢
  clear h1 h2 hx hr
  generalize lowP (wrap64 (-x)) r = s at *
  obtain ⟨p, q⟩ := s
  dsimp only at *
  go_enter Try.func10, Try.ntmps10
  go_wp2_with fail
  refine (C.out _).mono ?_; rintro e w' ⟨rfl, hB⟩
  go_wp2_with fail
  go_ret2
  exact ⟨ret_two w1 rfl, hB⟩

set_option maxRecDepth 100000 in
set_option maxHeartbeats 400000 in
theorem dSlack_any (a r : Int) (ha : Fits a) (hr : Fits r) (w : World) :
    Calls Try.prog 11 #[.int .i64 a, .int .i64 r] w fun e w' => TwoE (slackP a r) e ∧ Below w.heap.size w w' := by
  have CR := Lib.hid (dRate_any r)
  by_cases h : a < 0 ∨ farB a = true ∨ rateB r = false
  · have e : Hid (slackP a r = (0, 11)) := Lib.hid (if_pos h)
    generalize slackP a r = s at e
    by_cases h1 : a < 0
    · go_enter Try.func11, Try.ntmps11
      go_wp2
      go_ret2
      exact ⟨by rw [e.out]; rfl, Below.refl _ _⟩
    · by_cases h2 : 4611686018427387904 < a
      · go_enter Try.func11, Try.ntmps11
        go_wp2
        go_ret2
        exact ⟨by rw [e.out]; rfl, Below.refl _ _⟩
      · have hf : farB a = false := far_iff.2 ⟨by omega, by omega⟩
        have hr : rateB r = false := by
          rcases h with h | h | h
          · exact absurd h h1
          · rw [hf] at h; cases h
          · exact h
        rw [hr] at CR
        clear h hf hr
        go_enter Try.func11, Try.ntmps11
        go_wp2_with fail
        refine (CR.out _).mono ?_; rintro e w' ⟨rfl, rfl⟩
        go_wp2_with fail
        go_ret2
        exact ⟨by rw [e.out]; rfl, Below.refl _ _⟩
  · have e : Hid (slackP a r = (slackQ a r, 0)) := Lib.hid (if_neg h)
    have h1 : ¬ a < 0 := fun k => h (Or.inl k)
    have hf : farB a = false := by cases hb : farB a with
      | false => rfl
      | true => exact absurd (Or.inr (Or.inl hb)) h
    have hr1 : rateB r = true := by cases hb : rateB r with
      | true => rfl
      | false => exact absurd (Or.inr (Or.inr hb)) h
    obtain ⟨r0, r1⟩ := rate_iff.1 hr1
    obtain ⟨x0, x1⟩ := far_iff.1 hf
    have h2 : ¬ 4611686018427387904 < a := by omega
    have w2 : wrap64 (1000000 - r) = 1000000 - r := wrap_of_fits (by unfold Fits; omega)
    have hb := slackq_bd (a := a) (by omega) r0 r1
    unfold slackQ at hb e
    obtain ⟨k1, k2⟩ := rat_fit (a := a) (b := r) (c := 1000000 - r) (up := true) (by omega) (by unfold Fits; omega)
    have C := Lib.hid (ratio_any a r (1000000 - r) true ha hr (by unfold Fits; omega))
    rw [k1, k2] at C
    rw [hr1] at CR
    generalize slackP a r = s at e
    clear k1 k2 hb h hf hr1 hr ha
    generalize rquo a r (1000000 - r) true = t at *
    go_enter Try.func11, Try.ntmps11
    go_wp2_with fail
    refine (CR.out _).mono ?_; rintro e w' ⟨rfl, rfl⟩
    go_wp2_with fail
    refine (C.out _).mono ?_; rintro e w' ⟨rfl, n, rfl⟩
    go_wp2_with fail
    go_ret2
    exact ⟨by rw [e.out]; rfl, ⟨rfl, rfl, rfl, Nat.le_refl _, fun _ _ => rfl⟩⟩
end Go.Proofs.Ytljgfallhnlebaa
