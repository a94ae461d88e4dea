/- Law 4's DriftAnswers, walked from package drift's contracts. -/
import Derived.Test.YtljgfallhnlebaaDriC
namespace Go.Proofs.Ytljgfallhnlebaa
open Go.RowKit

set_option maxRecDepth 100000 in
set_option maxHeartbeats 4000000 in
theorem driftAnswers_any (G : DriftC) (x r : Int) (w : World) (hx : Fits x) (hr : Fits r) :
    Calls Try.prog 3 #[.int .i64 x, .int .i64 r] w fun e w' => e = .returned (.bool true) ∧ Below w.heap.size w w' := by
  have C0 := Lib.hid (alive4_any G)
  have C1 := Lib.hid fun W => G.low x r W hx hr
  have C2 := Lib.hid fun W => G.high x r W hx hr
  have C3 := Lib.hid fun W => G.slack x r W hx hr
  have C4 := Lib.hid fun W => rLow_any x r W hx hr
  have C5 := Lib.hid fun W => rHigh_any x r W hx hr
  have C6 := Lib.hid fun W => rSlack_any x r W hx hr
  unfold TwoE at C1 C2 C3 C4 C5 C6
  generalize lowP x r = p at *
  generalize highP x r = q at *
  generalize slackP x r = s at *
  obtain ⟨p1, p2⟩ := p
  obtain ⟨q1, q2⟩ := q
  obtain ⟨s1, s2⟩ := s
  dsimp only at C1 C2 C3 C4 C5 C6
  clear G hx hr
  have hB := Below.refl w.heap.size w
  go_enter Try.func3, Try.ntmps3
  go_wp2_with fail
  refine (C0.out _).mono ?_; rintro e w0 ⟨rfl, h⟩
  replace hB := ext_step hB h
  go_wp2_with fail
  refine (C1.out _).mono ?_; rintro e w1 ⟨rfl, h⟩
  replace hB := ext_step hB h
  go_wp2_with fail
  refine (C2.out _).mono ?_; rintro e w2 ⟨rfl, h⟩
  replace hB := ext_step hB h
  go_wp2_with fail
  refine (C3.out _).mono ?_; rintro e w3 ⟨rfl, h⟩
  replace hB := ext_step hB h
  go_wp2_with fail
  refine (C4.out _).mono ?_; rintro e w4 ⟨rfl, h⟩
  replace hB := ext_step hB h
  go_wp2_with fail
  refine (C5.out _).mono ?_; rintro e w5 ⟨rfl, h⟩
  replace hB := ext_step hB h
  go_wp2_with fail
  refine (C6.out _).mono ?_; rintro e w6 ⟨rfl, h⟩
  replace hB := ext_step hB h
  go_wp2_with fail
  go_ret
  exact ⟨rfl, hB⟩
end Go.Proofs.Ytljgfallhnlebaa
