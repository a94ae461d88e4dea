/- For all a, b and c: what is added is taken away again, a product is divided without a rest, a clamped number is as the document says. No condition. -/
import Derived.Test.YtncankjgmchckaaAlive
import Derived.Test.YtncankjgmchckaaPost
import Derived.Deep.CutBlock
import Derived.Deep.DeepCutAuto
namespace Go.Proofs.Ytncankjgmchckaa
open Go.RowKit

theorem rquo_back {a b : Int} (hb : 0 < b) (up : Bool) : rquo (a * b) 1 b up = a := by
  unfold rquo
  rw [Int.mul_one]
  cases up
  · simp only [Bool.false_eq_true, if_false]
    exact Int.mul_ediv_cancel _ (by omega)
  · simp only [if_true]
    rw [← Int.neg_mul, Int.mul_ediv_cancel _ (by omega)]; omega

set_option maxRecDepth 100000 in
set_option maxHeartbeats 1000000 in
theorem back_walk (a b c : Int) (ha : Fits a) (hb : Fits b) (w : World) :
    Calls Try.prog 6 #[.int .i64 a, .int .i64 b, .int .i64 c] w fun e w' => e = .returned (.bool true) ∧ Below w.heap.size w w' := by
  have C0 := Lib.hid alive_any
  have C1 := Lib.hid (add_any a b ha hb)
  have C2 := Lib.hid (fun h => sub_any (a + b) b h hb)
  have C3 := Lib.hid (mul_any a b ha hb)
  have C4 := Lib.hid (fun h => ratio_any (a * b) 1 b true h (by decide) hb)
  have C5 := Lib.hid (fun h => ratio_any (a * b) 1 b false h (by decide) hb)
  have C6 := Lib.hid (clamp_any a b c)
  go_enter Try.func6, Try.ntmps6
  go_wp2_with fail
  refine (C0.out _).mono ?_; rintro e w1 ⟨rfl, hb1⟩
  go_wp2_with fail
  refine (C1.out _).mono ?_; rintro e w' ⟨rfl, rfl⟩
  go_upto_if 27 with fail
  go_cut [7, 8] (fun _ _ wx => w1 = wx)
  case first =>
    by_cases hF : Fits (a + b)
    · have e1 := toldV_fit hF
      have e2 := toldE_fit hF
      have e3 : toldV (a + b - b) = a := by rw [show a + b - b = a by omega]; exact toldV_fit ha
      have e4 : toldE (a + b - b) = 0 := by rw [show a + b - b = a by omega]; exact toldE_fit ha
      have c2 := C2.out hF
      rw [e3, e4] at c2
      have C2' := Lib.hid c2
      clear e3 e4 c2
      go_wp2_with fail
      refine (C2'.out _).mono ?_; rintro e w' ⟨rfl, rfl⟩
      go_wp2_with fail
      go_meet
      rfl
    · have e2 := toldE_over hF
      go_wp2_with fail
      go_meet
      rfl
  case rest =>
    subst hcut
    go_wp2_with fail
    refine (C3.out _).mono ?_; rintro e w' ⟨rfl, rfl⟩
    by_cases hF : Fits (a * b)
    · have e1 := toldV_fit hF
      have e2 := toldE_fit hF
      by_cases h0 : 0 < b
      · have c4 := C4.out hF
        have c5 := C5.out hF
        rw [ratV_in (by omega), ratE_in (by omega), rquo_back h0, toldV_fit ha, toldE_fit ha] at c4 c5
        have C4' := Lib.hid c4
        have C5' := Lib.hid c5
        clear c4 c5 C4 C5 hF
        go_wp2_with fail
        refine (C4'.out _).mono ?_; rintro e w' ⟨rfl, n4, rfl⟩
        go_wp2_with fail
        refine (C5'.out _).mono ?_; rintro e w' ⟨rfl, n5, rfl⟩
        go_wp2_with (go_at_call 21; refine (C6.out _).mono ?_; rintro e w' ⟨rfl, rfl⟩)
        all_goals
          go_ret
          exact ⟨ret_true (by rw [beq_iff_eq]; omega), below_drewN hb1 _⟩
      · clear C4 C5 hF
        go_wp2_with (go_at_call 21; refine (C6.out _).mono ?_; rintro e w' ⟨rfl, rfl⟩)
        all_goals
          go_ret
          exact ⟨ret_true (by rw [beq_iff_eq]; omega), hb1⟩
    · have e2 := toldE_over hF
      clear C4 C5 hF
      go_wp2_with (go_at_call 21; refine (C6.out _).mono ?_; rintro e w' ⟨rfl, rfl⟩)
      all_goals
        go_ret
        exact ⟨ret_true (by rw [beq_iff_eq]; omega), hb1⟩
namespace safeBack
open Go.ChangeShapes Go.WideShapes Go.ChangeAt Go.RowKit
theorem own : ownKnob Try.prog.godebug = none := by kernel_rfl
set_option maxRecDepth 100000 in
theorem lifted (os : Os) (started : os.Started) (H : Type) (enc : TypeId × Value → H) :
    ReturnsInHanded {} Try.checked os 6 .any (Rows.safeBackSpec.pre6 enc Try.prog Try.f6 Rows.safeBackRow.domain false) (Rows.safeBackSpec.post enc Try.prog Try.f6 false true false false) := by
  refine returnsInHanded_of_change (C := Try.checked) own started (by kernel_rfl) Try.func6
    (ChangeSpec.witness6 (enc := enc) (C := Try.checked) false ⟨#[], #[.int .i64 0, .int .i64 0, .int .i64 0], []⟩ 8 (by kernel_rfl) (by kernel_rfl) (by kernel_rfl) (by kernel_rfl)) ?_
  intro W base args ds gs before hval0 hW hcnd _
  have hval : ∀ (j : Nat) t v, Try.f6.params[j]? = some t → args[j]? = some v → Value.okWide Try.prog W .any base t v := hval0
  have hW' := hW
  obtain ⟨p, q, hA0, hV, rfl, hfz, hnd⟩ := hW
  have hA : DataW.TrodAll enc Try.prog W 0 (fun _ => true) true Try.f6.params.toList args.toList ds p := hA0
  rw [Try.params6] at hA hval
  obtain ⟨v0, vs0, d0, ds0, p0, q0, hargs, rfl, rfl, h0, r0⟩ := trodAll_cons hA
  obtain ⟨v1, vs1, d1, ds1, p1, q1, rfl, rfl, rfl, h1, r1⟩ := trodAll_cons r0
  obtain ⟨v2, vs2, d2, ds2, p2, q2, rfl, rfl, rfl, h2, r2⟩ := trodAll_cons r1
  obtain ⟨rfl, rfl, rfl⟩ := trodAll_nil r2
  obtain rfl : args = #[v0, v1, v2] := by cases args; simp_all
  obtain ⟨rfl, rfl⟩ := trodVars_none hV
  obtain ⟨a0, rfl, rfl, rfl, w0⟩ := open_int Try.underlying2 (hval 0 2 v0 rfl rfl) h0
  obtain ⟨a1, rfl, rfl, rfl, w1⟩ := open_int Try.underlying2 (hval 1 2 v1 rfl rfl) h1
  obtain ⟨a2, rfl, rfl, rfl, w2⟩ := open_int Try.underlying2 (hval 2 2 v2 rfl rfl) h2
  clear hA0 hval0 hcnd
  simp only [List.append_nil] at hW'
  refine (back_walk a0 a1 a2 (fits_wf w0) (fits_wf w1) W).mono fun e W' ⟨he, hg⟩ => ?_
  subst he
  exact ⟨_, rfl, post_of_below (pa := []) (pv := []) hW' (fun _ _ _ => (trodAll_cons_mk (shut_bool Try.underlying4 _) trodAll_mk0)) (fun sp _ => (trodAll_cons_mk (shut_int Try.underlying2 w0) (trodAll_cons_mk (shut_int Try.underlying2 w1) (trodAll_cons_mk (shut_int Try.underlying2 w2) trodAll_mk0)))) (fun _ _ => rfl) rfl
    hg (ok_one (by kernel_rfl) rfl (okWide_bool_mk Try.underlying4 _))⟩

theorem over : Rows.safeBackRow.holds Try.pinned (OpenSpec.ofChange Rows.safeBackSpec) :=
  OpenClaim.holds_of_wide 6 Try.f6 rfl rfl rfl rfl rfl rfl rfl ⟨rfl, rfl, rfl, rfl, rfl⟩ rfl rfl rfl rfl rfl (by kernel_rfl) Try.func6 (by kernel_rfl)
    (of_decide_eq_true (by kernel_rfl)) (by unfold Func.isWrapper; first | (rw [if_pos (by decide +kernel)]; kernel_rfl) | (rw [if_neg (by decide +kernel)]; exact ⟨rfl, rfl⟩))
    (fun os started H enc _ => lifted os started H enc)
end safeBack

theorem safeBack_holds : Rows.SafeBackSaid := safeBack.over

end Go.Proofs.Ytncankjgmchckaa
