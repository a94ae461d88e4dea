/- For all a, b and c: each ratio answers what the document says, and up it is as great as down, or one more. No condition. -/
import Derived.Test.YtncankjgmchckaaAlive
import Derived.Test.YtncankjgmchckaaPost
import Derived.Test.YtncankjgmchckaaRefH
namespace Go.Proofs.Ytncankjgmchckaa
open Go.RowKit

theorem ratE_fit {a b c : Int} {up : Bool} (h : ratE a b c up = 0) : 1 ≤ c ∧ ratV a b c up = rquo a b c up ∧ Fits (rquo a b c up) := by
  by_cases hc : c < 1
  · rw [show ratE a b c up = 11 from if_pos hc] at h; exact absurd h (by decide)
  · rw [ratE_in (by omega)] at h
    have hf := toldE_ok.1 h
    exact ⟨by omega, by rw [ratV_in (by omega), toldV_fit hf], hf⟩
theorem up_down {a b c : Int} (h0 : ratE a b c false = 0) (h1 : ratE a b c true = 0) :
    ratV a b c true = ratV a b c false ∨ (ratV a b c false < 9223372036854775807 ∧ ratV a b c true = ratV a b c false + 1) := by
  obtain ⟨hc, e0, f0⟩ := ratE_fit h0
  obtain ⟨_, e1, f1⟩ := ratE_fit h1
  rw [e0, e1]
  unfold Fits at f1
  have k : rquo a b c true = rquo a b c false ∨ rquo a b c true = rquo a b c false + 1 := by
    unfold rquo
    simp only [if_true, Bool.false_eq_true, if_false]
    by_cases hr : a * b % c = 0
    · left; rw [neg_div_exact (by omega) hr]; omega
    · right; rw [neg_div_over (by omega) hr]; omega
  rcases k with k | k
  · exact .inl k
  · exact .inr ⟨by omega, k⟩

set_option maxRecDepth 100000 in
set_option maxHeartbeats 2000000 in
theorem ratios_walk (a b c : Int) (ha : Fits a) (hb : Fits b) (hc : Fits c) (w : World) :
    Calls Try.prog 5 #[.int .i64 a, .int .i64 b, .int .i64 c] w fun e w' => e = .returned (.bool true) ∧ Below w.heap.size w w' := by
  have C0 := Lib.hid alive_any
  have C1 := Lib.hid (ratio_any a b c false ha hb hc)
  have C2 := Lib.hid (ratio_any a b c true ha hb hc)
  have C3 := Lib.hid (refRatio_any a b c false ha hb hc)
  have C4 := Lib.hid (refRatio_any a b c true ha hb hc)
  have HU := Lib.hid (up_down (a := a) (b := b) (c := c))
  clear ha hb hc
  go_enter Try.func5, Try.ntmps5
  go_wp2_with fail
  refine (C0.out _).mono ?_; rintro e w1 ⟨rfl, hb1⟩
  go_wp2_with fail
  refine (C1.out _).mono ?_; rintro e w' ⟨rfl, n1, rfl⟩
  go_wp2_with fail
  refine (C2.out _).mono ?_; rintro e w' ⟨rfl, n2, rfl⟩
  go_wp2_with fail
  refine (C3.out _).mono ?_; rintro e w3 ⟨rfl, hb3⟩
  go_wp2_with fail
  refine (C4.out _).mono ?_; rintro e w4 ⟨rfl, hb4⟩
  have s1 := hb1.size
  have s3 := hb3.size
  have hz := ((below_drewN hb1 (n1 + n2)).trans (hb3.mono s1)).trans (hb4.mono (Nat.le_trans s1 s3))
  clear hb1 hb3 hb4 s1 s3
  by_cases h0 : ratE a b c false = 0
  · by_cases h1 : ratE a b c true = 0
    · have b0 : (ratE a b c false != 0) = false := by simpa using h0
      have b1 : (ratE a b c true != 0) = false := by simpa using h1
      have k := HU.out h0 h1
      clear h0 h1
      by_cases hy : ratV a b c true = ratV a b c false
      · have by1 : (ratV a b c true == ratV a b c false) = true := by simpa using hy
        clear k hy
        go_wp2_with fail
        go_ret
        exact ⟨rfl, hz⟩
      · have by1 : (ratV a b c true == ratV a b c false) = false := by simpa using hy
        obtain ⟨k1, k2⟩ := k.resolve_left hy
        have k0 : -9223372036854775808 ≤ ratV a b c false := by
          have : Fits (ratV a b c false) := by
            unfold ratV; split
            · decide
            · exact toldV_fits _
          exact this.1
        have by2 : (ratV a b c true == ratV a b c false + 1) = true := by simpa using k2
        clear hy k2 k
        go_wp2_with fail
        go_ret
        exact ⟨rfl, hz⟩
    · have b0 : (ratE a b c false != 0) = false := by simpa using h0
      have b1 : (ratE a b c true != 0) = true := by simpa using h1
      clear h0 h1
      go_wp2_with fail
      go_ret
      exact ⟨rfl, hz⟩
  · have b0 : (ratE a b c false != 0) = true := by simpa using h0
    clear h0
    go_wp2_with fail
    go_ret
    exact ⟨rfl, hz⟩

namespace safeRatios
open Go.ChangeShapes Go.WideShapes Go.ChangeAt Go.RowKit
theorem own : ownKnob Try.prog.godebug = none := by kernel_rfl
set_option maxRecDepth 100000 in
theorem lifted (os : Os) (started : os.Started) (H : Type) (enc : TypeId × Value → H) :
    ReturnsInHanded {} Try.checked os 5 .any (Rows.safeRatiosSpec.pre6 enc Try.prog Try.f5 Rows.safeRatiosRow.domain false) (Rows.safeRatiosSpec.post enc Try.prog Try.f5 false true false false) := by
  refine returnsInHanded_of_change (C := Try.checked) own started (by kernel_rfl) Try.func5
    (ChangeSpec.witness6 (enc := enc) (C := Try.checked) false ⟨#[], #[.int .i64 0, .int .i64 0, .int .i64 0], []⟩ 8 (by kernel_rfl) (by kernel_rfl) (by kernel_rfl) (by kernel_rfl)) ?_
  intro W base args ds gs before hval0 hW hcnd _
  have hval : ∀ (j : Nat) t v, Try.f5.params[j]? = some t → args[j]? = some v → Value.okWide Try.prog W .any base t v := hval0
  have hW' := hW
  obtain ⟨p, q, hA0, hV, rfl, hfz, hnd⟩ := hW
  have hA : DataW.TrodAll enc Try.prog W 0 (fun _ => true) true Try.f5.params.toList args.toList ds p := hA0
  rw [Try.params5] at hA hval
  obtain ⟨v0, vs0, d0, ds0, p0, q0, hargs, rfl, rfl, h0, r0⟩ := trodAll_cons hA
  obtain ⟨v1, vs1, d1, ds1, p1, q1, rfl, rfl, rfl, h1, r1⟩ := trodAll_cons r0
  obtain ⟨v2, vs2, d2, ds2, p2, q2, rfl, rfl, rfl, h2, r2⟩ := trodAll_cons r1
  obtain ⟨rfl, rfl, rfl⟩ := trodAll_nil r2
  obtain rfl : args = #[v0, v1, v2] := by cases args; simp_all
  obtain ⟨rfl, rfl⟩ := trodVars_none hV
  obtain ⟨a0, rfl, rfl, rfl, w0⟩ := open_int Try.underlying2 (hval 0 2 v0 rfl rfl) h0
  obtain ⟨a1, rfl, rfl, rfl, w1⟩ := open_int Try.underlying2 (hval 1 2 v1 rfl rfl) h1
  obtain ⟨a2, rfl, rfl, rfl, w2⟩ := open_int Try.underlying2 (hval 2 2 v2 rfl rfl) h2
  clear hA0 hval0 hcnd
  simp only [List.append_nil] at hW'
  refine (ratios_walk a0 a1 a2 (fits_wf w0) (fits_wf w1) (fits_wf w2) W).mono fun e W' ⟨he, hg⟩ => ?_
  subst he
  exact ⟨_, rfl, post_of_below (pa := []) (pv := []) hW' (fun _ _ _ => (trodAll_cons_mk (shut_bool Try.underlying4 _) trodAll_mk0)) (fun sp _ => (trodAll_cons_mk (shut_int Try.underlying2 w0) (trodAll_cons_mk (shut_int Try.underlying2 w1) (trodAll_cons_mk (shut_int Try.underlying2 w2) trodAll_mk0)))) (fun _ _ => rfl) rfl
    hg (ok_one (by kernel_rfl) rfl (okWide_bool_mk Try.underlying4 _))⟩

theorem over : Rows.safeRatiosRow.holds Try.pinned (OpenSpec.ofChange Rows.safeRatiosSpec) :=
  OpenClaim.holds_of_wide 5 Try.f5 rfl rfl rfl rfl rfl rfl rfl ⟨rfl, rfl, rfl, rfl, rfl⟩ rfl rfl rfl rfl rfl (by kernel_rfl) Try.func5 (by kernel_rfl)
    (of_decide_eq_true (by kernel_rfl)) (by unfold Func.isWrapper; first | (rw [if_pos (by decide +kernel)]; kernel_rfl) | (rw [if_neg (by decide +kernel)]; exact ⟨rfl, rfl⟩))
    (fun os started H enc _ => lifted os started H enc)
end safeRatios

theorem safeRatios_holds : Rows.SafeRatiosSaid := safeRatios.over

end Go.Proofs.Ytncankjgmchckaa
