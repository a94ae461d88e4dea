/- For all a, b, c and d: of a greater number a sum, a difference and a ratio are as great, or greater. No condition. -/
import Derived.Test.YtncankjgmchckaaAlive
import Derived.Test.YtncankjgmchckaaPost
import Derived.Deep.CutBlock
import Derived.Deep.DeepCutAuto
namespace Go.Proofs.Ytncankjgmchckaa
open Go.RowKit

theorem told_le {x y : Int} (hx : toldE x = 0) (hy : toldE y = 0) (h : x ≤ y) : toldV x ≤ toldV y := by
  rw [toldV_fit (toldE_ok.1 hx), toldV_fit (toldE_ok.1 hy)]; exact h
theorem ratE_ok {a b c : Int} {up : Bool} (h : ratE a b c up = 0) : 1 ≤ c ∧ ratV a b c up = rquo a b c up := by
  by_cases hc : c < 1
  · rw [show ratE a b c up = 11 from if_pos hc] at h; exact absurd h (by decide)
  · rw [ratE_in (by omega)] at h
    exact ⟨by omega, by rw [ratV_in (by omega), toldV_fit (toldE_ok.1 h)]⟩
theorem ratio_rises {a b c d : Int} (h : a ≤ b) (hc : 0 ≤ c) (ha : ratE a c d true = 0) (hb : ratE b c d true = 0) : ratV a c d true ≤ ratV b c d true := by
  obtain ⟨hd, e1⟩ := ratE_ok ha
  obtain ⟨_, e2⟩ := ratE_ok hb
  rw [e1, e2]
  have h1 : a * c ≤ b * c := Int.mul_le_mul_of_nonneg_right h hc
  have h2 := Int.ediv_le_ediv (show 0 < d by omega) (show -(b * c) ≤ -(a * c) by omega)
  simp only [rquo, if_true]
  omega

set_option maxRecDepth 100000 in
set_option maxHeartbeats 2000000 in
theorem rises_walk (a b c d : Int) (ha : Fits a) (hb : Fits b) (hc : Fits c) (hd : Fits d) (w : World) :
    Calls Try.prog 7 #[.int .i64 a, .int .i64 b, .int .i64 c, .int .i64 d] w fun e w' => e = .returned (.bool true) ∧ Below w.heap.size w w' := by
  have C0 := Lib.hid alive_any
  by_cases hab : a ≤ b
  · have C1 := Lib.hid (add_any a c ha hc)
    have C2 := Lib.hid (add_any b c hb hc)
    have C3 := Lib.hid (sub_any a c ha hc)
    have C4 := Lib.hid (sub_any b c hb hc)
    have C5 := Lib.hid (clamp_any a c d)
    have C6 := Lib.hid (clamp_any b c d)
    have C7 := Lib.hid (ratio_any a c d true ha hc hd)
    have C8 := Lib.hid (ratio_any b c d true hb hc hd)
    go_enter Try.func7, Try.ntmps7
    go_wp2_with fail
    refine (C0.out _).mono ?_; rintro e w1 ⟨rfl, hb1⟩
    go_wp2_with fail
    refine (C1.out _).mono ?_; rintro e w' ⟨rfl, rfl⟩
    go_wp2_with fail
    refine (C2.out _).mono ?_; rintro e w' ⟨rfl, rfl⟩
    go_upto_region 7 with fail
    go_cut [9, 10, 11, 12, 40] (fun _ _ _ _ t wx => t = .bool false ∧ w1 = wx)
    case first =>
      by_cases h1 : toldE (a + c) = 0
      · by_cases h2 : toldE (b + c) = 0
        · have l := told_le h1 h2 (show a + c ≤ b + c by omega)
          have b1 : (toldE (a + c) == 0) = true := by simpa using h1
          have b2 : (toldE (b + c) == 0) = true := by simpa using h2
          clear h1 h2
          go_wp2_with fail
          go_meet
          exact ⟨congrArg Value.bool (decide_eq_false (by omega)), rfl⟩
        · have b1 : (toldE (a + c) == 0) = true := by simpa using h1
          have b2 : (toldE (b + c) == 0) = false := by simpa using h2
          clear h1 h2
          go_wp2_with fail
          go_meet
          exact ⟨rfl, rfl⟩
      · have b1 : (toldE (a + c) == 0) = false := by simpa using h1
        clear h1
        go_wp2_with fail
        go_meet
        exact ⟨rfl, rfl⟩
    case rest =>
      obtain ⟨rfl, rfl⟩ := hcut
      go_wp2_with fail
      refine (C3.out _).mono ?_; rintro e w' ⟨rfl, rfl⟩
      go_wp2_with fail
      refine (C4.out _).mono ?_; rintro e w' ⟨rfl, rfl⟩
      go_upto_region 11 with fail
      go_cut [9, 10, 11, 12, 63] (fun _ _ _ _ t wx => t = .bool false ∧ w1 = wx)
      case first =>
        by_cases h1 : toldE (a - c) = 0
        · by_cases h2 : toldE (b - c) = 0
          · have l := told_le h1 h2 (show a - c ≤ b - c by omega)
            have b1 : (toldE (a - c) == 0) = true := by simpa using h1
            have b2 : (toldE (b - c) == 0) = true := by simpa using h2
            clear h1 h2
            go_wp2_with fail
            go_meet
            exact ⟨congrArg Value.bool (decide_eq_false (by omega)), rfl⟩
          · have b1 : (toldE (a - c) == 0) = true := by simpa using h1
            have b2 : (toldE (b - c) == 0) = false := by simpa using h2
            clear h1 h2
            go_wp2_with fail
            go_meet
            exact ⟨rfl, rfl⟩
        · have b1 : (toldE (a - c) == 0) = false := by simpa using h1
          clear h1
          go_wp2_with fail
          go_meet
          exact ⟨rfl, rfl⟩
      case rest =>
        obtain ⟨rfl, rfl⟩ := hcut
        by_cases hc0 : c < 0
        · have l : min (max a c) d ≤ min (max b c) d := by omega
          go_wp2_with fail
          refine (C5.out _).mono ?_; rintro e w' ⟨rfl, rfl⟩
          go_wp2_with fail
          refine (C6.out _).mono ?_; rintro e w' ⟨rfl, rfl⟩
          go_wp2_with fail
          go_ret
          exact ⟨rfl, hb1⟩
        · go_wp2_with fail
          refine (C7.out _).mono ?_; rintro e w' ⟨rfl, n7, rfl⟩
          go_wp2_with fail
          refine (C8.out _).mono ?_; rintro e w' ⟨rfl, n8, rfl⟩
          by_cases h1 : ratE a c d true = 0
          · by_cases h2 : ratE b c d true = 0
            · have l := ratio_rises hab (show 0 ≤ c by omega) h1 h2
              have b1 : (ratE a c d true != 0) = false := by simpa using h1
              have b2 : (ratE b c d true != 0) = false := by simpa using h2
              clear h1 h2
              go_wp2_with fail
              go_ret
              exact ⟨rfl, below_drewN hb1 _⟩
            · have b1 : (ratE a c d true != 0) = false := by simpa using h1
              have b2 : (ratE b c d true != 0) = true := by simpa using h2
              clear h1 h2
              go_wp2_with fail
              go_ret
              exact ⟨rfl, below_drewN hb1 _⟩
          · have b1 : (ratE a c d true != 0) = true := by simpa using h1
            clear h1
            go_wp2_with fail
            go_ret
            exact ⟨rfl, below_drewN hb1 _⟩
  · go_enter Try.func7, Try.ntmps7
    go_wp2_with fail
    refine (C0.out _).mono ?_; rintro e w1 ⟨rfl, hb1⟩
    go_wp2_with fail
    go_ret
    exact ⟨rfl, hb1⟩

namespace safeRises
open Go.ChangeShapes Go.WideShapes Go.ChangeAt Go.RowKit
theorem own : ownKnob Try.prog.godebug = none := by kernel_rfl
set_option maxRecDepth 100000 in
theorem lifted (os : Os) (started : os.Started) (H : Type) (enc : TypeId × Value → H) :
    ReturnsInHanded {} Try.checked os 7 .any (Rows.safeRisesSpec.pre6 enc Try.prog Try.f7 Rows.safeRisesRow.domain false) (Rows.safeRisesSpec.post enc Try.prog Try.f7 false true false false) := by
  refine returnsInHanded_of_change (C := Try.checked) own started (by kernel_rfl) Try.func7
    (ChangeSpec.witness6 (enc := enc) (C := Try.checked) false ⟨#[], #[.int .i64 0, .int .i64 0, .int .i64 0, .int .i64 0], []⟩ 8 (by kernel_rfl) (by kernel_rfl) (by kernel_rfl) (by kernel_rfl)) ?_
  intro W base args ds gs before hval0 hW hcnd _
  have hval : ∀ (j : Nat) t v, Try.f7.params[j]? = some t → args[j]? = some v → Value.okWide Try.prog W .any base t v := hval0
  have hW' := hW
  obtain ⟨p, q, hA0, hV, rfl, hfz, hnd⟩ := hW
  have hA : DataW.TrodAll enc Try.prog W 0 (fun _ => true) true Try.f7.params.toList args.toList ds p := hA0
  rw [Try.params7] at hA hval
  obtain ⟨v0, vs0, d0, ds0, p0, q0, hargs, rfl, rfl, h0, r0⟩ := trodAll_cons hA
  obtain ⟨v1, vs1, d1, ds1, p1, q1, rfl, rfl, rfl, h1, r1⟩ := trodAll_cons r0
  obtain ⟨v2, vs2, d2, ds2, p2, q2, rfl, rfl, rfl, h2, r2⟩ := trodAll_cons r1
  obtain ⟨v3, vs3, d3, ds3, p3, q3, rfl, rfl, rfl, h3, r3⟩ := trodAll_cons r2
  obtain ⟨rfl, rfl, rfl⟩ := trodAll_nil r3
  obtain rfl : args = #[v0, v1, v2, v3] := by cases args; simp_all
  obtain ⟨rfl, rfl⟩ := trodVars_none hV
  obtain ⟨a0, rfl, rfl, rfl, w0⟩ := open_int Try.underlying2 (hval 0 2 v0 rfl rfl) h0
  obtain ⟨a1, rfl, rfl, rfl, w1⟩ := open_int Try.underlying2 (hval 1 2 v1 rfl rfl) h1
  obtain ⟨a2, rfl, rfl, rfl, w2⟩ := open_int Try.underlying2 (hval 2 2 v2 rfl rfl) h2
  obtain ⟨a3, rfl, rfl, rfl, w3⟩ := open_int Try.underlying2 (hval 3 2 v3 rfl rfl) h3
  clear hA0 hval0 hcnd
  simp only [List.append_nil] at hW'
  refine (rises_walk a0 a1 a2 a3 (fits_wf w0) (fits_wf w1) (fits_wf w2) (fits_wf w3) W).mono fun e W' ⟨he, hg⟩ => ?_
  subst he
  exact ⟨_, rfl, post_of_below (pa := []) (pv := []) hW' (fun _ _ _ => (trodAll_cons_mk (shut_bool Try.underlying4 _) trodAll_mk0)) (fun sp _ => (trodAll_cons_mk (shut_int Try.underlying2 w0) (trodAll_cons_mk (shut_int Try.underlying2 w1) (trodAll_cons_mk (shut_int Try.underlying2 w2) (trodAll_cons_mk (shut_int Try.underlying2 w3) trodAll_mk0))))) (fun _ _ => rfl) rfl
    hg (ok_one (by kernel_rfl) rfl (okWide_bool_mk Try.underlying4 _))⟩

theorem over : Rows.safeRisesRow.holds Try.pinned (OpenSpec.ofChange Rows.safeRisesSpec) :=
  OpenClaim.holds_of_wide 7 Try.f7 rfl rfl rfl rfl rfl rfl rfl ⟨rfl, rfl, rfl, rfl, rfl⟩ rfl rfl rfl rfl rfl (by kernel_rfl) Try.func7 (by kernel_rfl)
    (of_decide_eq_true (by kernel_rfl)) (by unfold Func.isWrapper; first | (rw [if_pos (by decide +kernel)]; kernel_rfl) | (rw [if_neg (by decide +kernel)]; exact ⟨rfl, rfl⟩))
    (fun os started H enc _ => lifted os started H enc)
end safeRises

theorem safeRises_holds : Rows.SafeRisesSaid := safeRises.over

end Go.Proofs.Ytncankjgmchckaa
