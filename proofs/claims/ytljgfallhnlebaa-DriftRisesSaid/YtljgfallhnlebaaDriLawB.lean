/- Law 4's DriftRises, walked from package drift's contracts. -/
import Derived.Test.YtljgfallhnlebaaDriC
import Derived.Deep.CutBlock
import Derived.Deep.DeepCutAuto
namespace Go.Proofs.Ytljgfallhnlebaa
open Go.RowKit

theorem low_bad {x r : Int} (h : farB x = true ∨ rateB r = false) : lowP x r = (0, 11) := if_pos h
theorem high_bad {x r : Int} (h : farB x = true ∨ rateB r = false) : highP x r = (0, 11) := if_pos h
theorem not_bad {x r : Int} (hf : farB x = false) (hr : rateB r = true) : ¬ (farB x = true ∨ rateB r = false) := by rw [hf, hr]; simp
theorem low_good {x r : Int} (hf : farB x = false) (hr : rateB r = true) : lowP x r = (lowQ x r, 0) := if_neg (not_bad hf hr)
theorem high_good {x r : Int} (hf : farB x = false) (hr : rateB r = true) : highP x r = (-lowQ (-x) r, 0) := if_neg (not_bad hf hr)
theorem far_neg {x : Int} (hf : farB x = false) : farB (-x) = false := far_iff.2 (by have := far_iff.1 hf; omega)
theorem slack_good {x r : Int} (hf : farB x = false) (hr : rateB r = true) : slackP (max x (-x)) r = (slackQ (max x (-x)) r, 0) := by
  have h := far_iff.1 hf
  exact if_neg (by rw [far_iff.2 (show -4611686018427387904 ≤ max x (-x) ∧ max x (-x) ≤ 4611686018427387904 by omega), hr]; simp; omega)

set_option maxRecDepth 100000 in
set_option maxHeartbeats 8000000 in
theorem driftRises_any (G : DriftC) (x y r : Int) (w : World) (hx : Fits x) (hy : Fits y) (hr : Fits r) :
    Calls Try.prog 4 #[.int .i64 x, .int .i64 y, .int .i64 r] w fun e w' => e = .returned (.bool true) ∧ Below w.heap.size w w' := by
  have C0 := Lib.hid (alive4_any G)
  have C1 := Lib.hid fun W => G.low x r W hx hr
  have C2 := Lib.hid fun W => G.high x r W hx hr
  have C4 := Lib.hid fun W => G.low y r W hy hr
  have C5 := Lib.hid fun W => G.high y r W hy hr
  unfold TwoE at C1 C2 C4 C5
  by_cases hbad : farB x = true ∨ rateB r = false
  · rw [low_bad hbad] at C1
    rw [high_bad hbad] at C2
    dsimp only at C1 C2
    clear G hx hr hy hbad C4 C5
    have hB := Below.refl w.heap.size w
    go_enter Try.func4, Try.ntmps4
    go_wp2_with fail
    refine (C0.out _).mono ?_; rintro e w0 ⟨rfl, h⟩
    replace hB := ext_step hB h
    go_wp2_with fail
    refine (C1.out _).mono ?_; rintro e w1 ⟨rfl, h⟩
    replace hB := ext_step hB h
    go_wp2_with fail
    refine (C2.out _).mono ?_; rintro e w2 ⟨rfl, h⟩
    replace hB := ext_step hB h
    go_wp2_with fail
    go_ret
    exact ⟨rfl, hB⟩
  have hf : farB x = false := by cases h : farB x with | true => exact absurd (Or.inl h) hbad | false => rfl
  have hR : rateB r = true := by cases h : rateB r with | false => exact absurd (Or.inr h) hbad | true => rfl
  obtain ⟨x1, x2⟩ := far_iff.1 hf
  obtain ⟨r1, r2⟩ := rate_iff.1 hR
  have C3 := Lib.hid fun W => G.slack (max x (-x)) r W (by unfold Fits; omega) hr
  unfold TwoE at C3
  rw [low_good hf hR] at C1
  rw [high_good hf hR] at C2
  rw [slack_good hf hR] at C3
  dsimp only at C1 C2 C3
  have k1 := lowQ_fits hf r1 r2
  have k2 := lowQ_fits (far_neg hf) r1 r2
  have k3 := lowQ_near (x := x) r1 r2
  have k4 := lowQ_near (x := -x) r1 r2
  rw [show max (-x) (- -x) = max x (-x) by omega] at k4
  have k5 := lowQ_le (x := x) r1 r2
  have k6 := lowQ_le (x := -x) r1 r2
  have k7 := slackq_bd (a := max x (-x)) (r := r) (by omega) r1 r2
  have HY : Hid (farB y = false → x ≤ y → lowQ x r ≤ lowQ y r ∧ -lowQ (-x) r ≤ -lowQ (-y) r) := Lib.hid fun _ h => ⟨lowQ_rises r1 r2 h, by have := lowQ_rises (x := -y) (y := -x) r1 r2 (by omega); omega⟩
  generalize slackQ (max x (-x)) r = s at *
  generalize lowQ x r = a at *
  obtain ⟨b, hb⟩ : ∃ b, -lowQ (-x) r = b := ⟨_, rfl⟩
  rw [hb] at C2 HY
  have n1 : a ≤ b := by omega
  have n2 : x - a ≤ s + 2 := by omega
  have n3 : b - x ≤ s + 2 := by omega
  have n4 : a ≤ x + 1 := by omega
  have n5 : x - 1 ≤ b := by omega
  have n6 : 0 ≤ s := by omega
  have n7 : s ≤ 4611686018427387904 := by omega
  have n8 : -9223372036854775808 ≤ x - a := by omega
  have n9 : -9223372036854775808 ≤ b - x := by omega
  have hR' := Lib.hid hR
  have HX := Lib.hid hx
  clear G hx hr hy hbad hf hR k1 k2 k3 k4 k5 k6 k7 hb
  have hB := Below.refl w.heap.size w
  go_enter Try.func4, Try.ntmps4
  go_wp2_with fail
  refine (C0.out _).mono ?_; rintro e w0 ⟨rfl, h⟩
  replace hB := ext_step hB h
  go_wp2_with fail
  refine (C1.out _).mono ?_; rintro e w1 ⟨rfl, h⟩
  replace hB := ext_step hB h
  go_wp2_with fail
  refine (C2.out _).mono ?_; rintro e w2 ⟨rfl, h⟩
  replace hB := ext_step hB h
  go_wp2_with fail
  refine (C3.out _).mono ?_; rintro e w3 ⟨rfl, h⟩
  replace hB := ext_step hB h
  clear h
  go_upto_region 10 with fail
  cases hq : farB y with
  | true =>
    rw [low_bad (Or.inl hq)] at C4
    rw [high_bad (Or.inl hq)] at C5
    dsimp only at C4 C5
    clear hq HY
    go_wp2_with fail
    refine (C4.out _).mono ?_; rintro e w4 ⟨rfl, h⟩
    replace hB := ext_step hB h
    go_wp2_with fail
    refine (C5.out _).mono ?_; rintro e w5 ⟨rfl, h⟩
    replace hB := ext_step hB h
    go_wp2_with fail
    go_ret
    exact ⟨rfl, hB⟩
  | false =>
    rw [low_good hq hR'.out] at C4
    rw [high_good hq hR'.out] at C5
    dsimp only at C4 C5
    replace HY := Lib.hid (HY.out hq)
    generalize lowQ y r = c at *
    generalize -lowQ (-y) r = d at *
    clear hq
    by_cases hlt : y < x
    · clear HY
      go_wp2_with fail
      refine (C4.out _).mono ?_; rintro e w4 ⟨rfl, h⟩
      replace hB := ext_step hB h
      go_wp2_with fail
      refine (C5.out _).mono ?_; rintro e w5 ⟨rfl, h⟩
      replace hB := ext_step hB h
      go_wp2_with fail
      go_ret
      exact ⟨rfl, hB⟩
    · obtain ⟨z1, z2⟩ := HY.out (by omega)
      clear HY
      go_wp2_with fail
      refine (C4.out _).mono ?_; rintro e w4 ⟨rfl, h⟩
      replace hB := ext_step hB h
      go_wp2_with fail
      refine (C5.out _).mono ?_; rintro e w5 ⟨rfl, h⟩
      replace hB := ext_step hB h
      go_wp2_with fail
      go_ret
      exact ⟨rfl, hB⟩
end Go.Proofs.Ytljgfallhnlebaa
