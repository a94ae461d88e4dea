/- The document's own bounds of true time: far, Rate, Low, High and Slack of noonmarkref04, walked. -/
import Derived.Test.YtljgfallhnlebaaToldR
import Derived.Test.YtljgfallhnlebaaAt2
import Derived.Test.YtljgfallhnlebaaDrift
import Derived.Lib.MinMax
namespace Go.Proofs.Ytljgfallhnlebaa
open Go.RowKit

set_option maxRecDepth 100000 in
set_option maxHeartbeats 400000 in
theorem rFar_any (x : Int) (w : World) : Calls Try.prog 22 #[.int .i64 x] w fun e w' => e = .returned (.bool (farB x)) ∧ w = w' := by
  by_cases h : x < -4611686018427387904
  · have HE : Hid (farB x = true) := Lib.hid (decide_eq_true (Or.inl h))
    rw [HE.out]
    go_enter Try.func22, Try.ntmps22
    go_wp2_with fail
    go_ret
    exact ⟨rfl, rfl⟩
  · have HE : Hid (farB x = decide (4611686018427387904 < x)) := Lib.hid (decide_eq_decide.2 ⟨fun k => k.resolve_left h, Or.inr⟩)
    rw [HE.out]
    have e1 : decide (x < -4611686018427387904) = false := decide_eq_false h
    clear h
    go_enter Try.func22, Try.ntmps22
    go_wp2_with fail
    go_ret
    exact ⟨rfl, rfl⟩

set_option maxRecDepth 100000 in
set_option maxHeartbeats 400000 in
theorem rRate_any (x : Int) (w : World) : Calls Try.prog 23 #[.int .i64 x] w fun e w' => e = .returned (.bool (rateB x)) ∧ w = w' := by
  by_cases h : 0 ≤ x
  · have HE : Hid (rateB x = decide (x ≤ 100000)) := Lib.hid (decide_eq_decide.2 ⟨fun k => k.2, fun k => ⟨h, k⟩⟩)
    rw [HE.out]
    have e1 : decide (x ≥ 0) = true := decide_eq_true h
    clear h
    go_enter Try.func23, Try.ntmps23
    go_wp2_with fail
    go_ret
    exact ⟨rfl, rfl⟩
  · have HE : Hid (rateB x = false) := Lib.hid (decide_eq_false fun k => h k.1)
    rw [HE.out]
    have e1 : decide (x ≥ 0) = false := decide_eq_false h
    clear h
    go_enter Try.func23, Try.ntmps23
    go_wp2_with fail
    go_ret
    exact ⟨rfl, rfl⟩

/-- A ratio of longs whose quotient fits. -/
theorem ratio_in (a b c : Int) (up : Bool) (q : Int) (ha : Fits a) (hb : Fits b) (hc : Fits c) (h1 : 1 ≤ c) (hq : rquo a b c up = q) (hf : Fits q) (w : World) :
    Calls Try.prog 24 #[.int .i64 a, .int .i64 b, .int .i64 c, .bool up] w fun e w' => e = .returned (.tuple #[.int .i64 q, .int .i64 0]) ∧ Below w.heap.size w w' := by
  subst hq
  refine (refRatio_any a b c up ha hb hc w).mono fun e w' ⟨he, hb⟩ => ⟨?_, hb⟩
  rw [he, ratV_in h1, ratE_in h1, toldV_fit hf, toldE_fit hf]

set_option maxRecDepth 100000 in
set_option maxHeartbeats 1000000 in
theorem rLow_any (x r : Int) (w : World) (hx : Fits x) (hr : Fits r) :
    Calls Try.prog 12 #[.int .i64 x, .int .i64 r] w fun e w' => TwoE (lowP x r) e ∧ Below w.heap.size w w' := by
  have CF := Lib.hid (rFar_any x)
  have CR := Lib.hid (rRate_any r)
  cases hf : farB x with
  | true =>
    have HS : Hid (lowP x r = (0, 11)) := Lib.hid (if_pos (Or.inl hf))
    rw [hf] at CF
    clear hf hx hr
    go_enter Try.func12, Try.ntmps12
    go_wp2_with fail
    refine (CF.out _).mono ?_; rintro e w1 ⟨rfl, rfl⟩
    go_wp2_with fail
    go_ret2
    exact ⟨by rw [HS.out]; rfl, Below.refl _ _⟩
  | false =>
    cases hR : rateB r with
    | false =>
      have HS : Hid (lowP x r = (0, 11)) := Lib.hid (if_pos (Or.inr hR))
      rw [hf] at CF
      rw [hR] at CR
      clear hf hx hr hR
      go_enter Try.func12, Try.ntmps12
      go_wp2_with fail
      refine (CF.out _).mono ?_; rintro e w1 ⟨rfl, rfl⟩
      go_wp2_with fail
      refine (CR.out _).mono ?_; rintro e w1 ⟨rfl, rfl⟩
      go_wp2_with fail
      go_ret2
      exact ⟨by rw [HS.out]; rfl, Below.refl _ _⟩
    | true =>
      obtain ⟨x1, x2⟩ := far_iff.1 hf
      obtain ⟨r1, r2⟩ := rate_iff.1 hR
      have HS : Hid (lowP x r = (lowQ x r, 0)) := Lib.hid (if_neg (by rw [hf, hR]; simp))
      rw [hf] at CF
      rw [hR] at CR
      clear hf hR
      by_cases hp : 0 < x
      · have HQ : Hid (lowQ x r = max 1 (rquo (x - 1) 1000000 (1000000 + r) true)) := Lib.hid (if_pos hp)
        have hb := upq_bd hp r1
        have CQ := Lib.hid (ratio_in (x - 1) 1000000 (1000000 + r) true _ (by unfold Fits at *; omega) (by decide) (by unfold Fits at *; omega) (by omega) rfl (by unfold Fits at *; omega))
        generalize rquo (x - 1) 1000000 (1000000 + r) true = q at *
        clear hx hr hb
        go_enter Try.func12, Try.ntmps12
        go_wp2_with fail
        refine (CF.out _).mono ?_; rintro e w1 ⟨rfl, rfl⟩
        go_wp2_with fail
        refine (CR.out _).mono ?_; rintro e w1 ⟨rfl, rfl⟩
        go_wp2_with fail
        refine (CQ.out _).mono ?_; rintro e w1 ⟨rfl, h⟩
        go_wp2_with fail
        go_ret2
        exact ⟨by rw [HS.out, HQ.out]; rfl, h⟩
      · have HQ : Hid (lowQ x r = -(rquo (1 - x) 1000000 (1000000 - r) false)) := Lib.hid (if_neg hp)
        have hb := downq_bd (show x ≤ 0 by omega) r1 r2
        have CQ := Lib.hid (ratio_in (1 - x) 1000000 (1000000 - r) false _ (by unfold Fits at *; omega) (by decide) (by unfold Fits at *; omega) (by omega) rfl (by unfold Fits at *; omega))
        generalize rquo (1 - x) 1000000 (1000000 - r) false = q at *
        have q1 : 0 ≤ q := by omega
        have q2 : q ≤ 9223372036854775807 := by omega
        clear hx hr hb
        go_enter Try.func12, Try.ntmps12
        go_wp2_with fail
        refine (CF.out _).mono ?_; rintro e w1 ⟨rfl, rfl⟩
        go_wp2_with fail
        refine (CR.out _).mono ?_; rintro e w1 ⟨rfl, rfl⟩
        go_wp2_with fail
        refine (CQ.out _).mono ?_; rintro e w1 ⟨rfl, h⟩
        go_wp2_with fail
        go_ret2
        exact ⟨by rw [HS.out, HQ.out]; rfl, h⟩

set_option maxRecDepth 100000 in
set_option maxHeartbeats 1000000 in
theorem rHigh_any (x r : Int) (w : World) (hx : Fits x) (hr : Fits r) :
    Calls Try.prog 13 #[.int .i64 x, .int .i64 r] w fun e w' => TwoE (highP x r) e ∧ Below w.heap.size w w' := by
  have CF := Lib.hid (rFar_any x)
  cases hf : farB x with
  | true =>
    have HS : Hid (highP x r = (0, 11)) := Lib.hid (if_pos (Or.inl hf))
    rw [hf] at CF
    clear hf hx hr
    go_enter Try.func13, Try.ntmps13
    go_wp2_with fail
    refine (CF.out _).mono ?_; rintro e w1 ⟨rfl, rfl⟩
    go_wp2_with fail
    go_ret2
    exact ⟨by rw [HS.out]; rfl, Below.refl _ _⟩
  | false =>
    obtain ⟨x1, x2⟩ := far_iff.1 hf
    have hn : farB (-x) = false := far_iff.2 (by omega)
    have CL := Lib.hid fun W => rLow_any (-x) r W (by unfold Fits at *; omega) hr
    have HS : Hid (highP x r = (-(lowP (-x) r).1, (lowP (-x) r).2)) := Lib.hid (by
      unfold highP lowP
      rw [hf, hn]
      by_cases h : rateB r = false
      · rw [if_pos (Or.inr h), if_pos (Or.inr h)]; rfl
      · rw [if_neg (by simp [h]), if_neg (by simp [h])])
    have hb : -9223372036854775807 ≤ (lowP (-x) r).1 ∧ (lowP (-x) r).1 ≤ 9223372036854775807 := by
      unfold lowP
      by_cases h : rateB r = false
      · rw [if_pos (Or.inr h)]; decide
      · obtain ⟨r1, r2⟩ := rate_iff.1 (show rateB r = true by simpa using h)
        rw [if_neg (by simp [h, hn])]
        have := lowQ_fits hn r1 r2
        dsimp only
        omega
    unfold TwoE at CL
    generalize lowP (-x) r = p at *
    obtain ⟨p1, p2⟩ := p
    dsimp only at CL HS hb
    obtain ⟨b1, b2⟩ := hb
    rw [hf] at CF
    clear hf hx hr hn
    go_enter Try.func13, Try.ntmps13
    go_wp2_with fail
    refine (CF.out _).mono ?_; rintro e w1 ⟨rfl, rfl⟩
    go_wp2_with fail
    refine (CL.out _).mono ?_; rintro e w1 ⟨rfl, h⟩
    go_wp2_with fail
    go_ret2
    exact ⟨by rw [HS.out]; rfl, h⟩

set_option maxRecDepth 100000 in
set_option maxHeartbeats 1000000 in
theorem rSlack_any (x r : Int) (w : World) (hx : Fits x) (hr : Fits r) :
    Calls Try.prog 14 #[.int .i64 x, .int .i64 r] w fun e w' => TwoE (slackP x r) e ∧ Below w.heap.size w w' := by
  have CF := Lib.hid (rFar_any x)
  have CR := Lib.hid (rRate_any r)
  by_cases h0 : x < 0
  · have HS : Hid (slackP x r = (0, 11)) := Lib.hid (if_pos (Or.inl h0))
    clear hx hr
    go_enter Try.func14, Try.ntmps14
    go_wp2_with fail
    go_ret2
    exact ⟨by rw [HS.out]; rfl, Below.refl _ _⟩
  have e0 : decide (x < 0) = false := decide_eq_false h0
  cases hf : farB x with
  | true =>
    have HS : Hid (slackP x r = (0, 11)) := Lib.hid (if_pos (Or.inr (Or.inl hf)))
    rw [hf] at CF
    clear hf hx hr h0
    go_enter Try.func14, Try.ntmps14
    go_wp2_with fail
    refine (CF.out _).mono ?_; rintro e w1 ⟨rfl, rfl⟩
    go_wp2_with fail
    go_ret2
    exact ⟨by rw [HS.out]; rfl, Below.refl _ _⟩
  | false =>
    cases hR : rateB r with
    | false =>
      have HS : Hid (slackP x r = (0, 11)) := Lib.hid (if_pos (Or.inr (Or.inr hR)))
      rw [hf] at CF
      rw [hR] at CR
      clear hf hx hr hR h0
      go_enter Try.func14, Try.ntmps14
      go_wp2_with fail
      refine (CF.out _).mono ?_; rintro e w1 ⟨rfl, rfl⟩
      go_wp2_with fail
      refine (CR.out _).mono ?_; rintro e w1 ⟨rfl, rfl⟩
      go_wp2_with fail
      go_ret2
      exact ⟨by rw [HS.out]; rfl, Below.refl _ _⟩
    | true =>
      obtain ⟨x1, x2⟩ := far_iff.1 hf
      obtain ⟨r1, r2⟩ := rate_iff.1 hR
      have HS : Hid (slackP x r = (slackQ x r, 0)) := Lib.hid (if_neg (by rw [hf, hR]; simp; omega))
      rw [hf] at CF
      rw [hR] at CR
      have hb := slackq_bd (show 0 ≤ x by omega) r1 r2
      have CQ := Lib.hid (ratio_in x r (1000000 - r) true (slackQ x r) hx hr (by unfold Fits at *; omega) (by omega) rfl (by unfold Fits at *; omega))
      generalize slackQ x r = q at *
      clear hf hR hx hr hb h0
      go_enter Try.func14, Try.ntmps14
      go_wp2_with fail
      refine (CF.out _).mono ?_; rintro e w1 ⟨rfl, rfl⟩
      go_wp2_with fail
      refine (CR.out _).mono ?_; rintro e w1 ⟨rfl, rfl⟩
      go_wp2_with fail
      refine (CQ.out _).mono ?_; rintro e w1 ⟨rfl, h⟩
      go_wp2_with fail
      go_ret2
      exact ⟨by rw [HS.out]; rfl, h⟩
end Go.Proofs.Ytljgfallhnlebaa
