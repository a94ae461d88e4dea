/- For all gaps and numbers the package answers of New, Right, Has, Within, Width, Mid, Shift and Grow what the document says. No condition. -/
import Derived.Test.YthkeofpmappdhaaGapLawA
import Derived.Test.YthkeofpmappdhaaGapLawA1
import Derived.Test.YthkeofpmappdhaaGapLawA0
import Derived.Test.YthkeofpmappdhaaPost
import Derived.Test.YthkeofpmappdhaaGapKit
import Derived.Test.YthkeofpmappdhaaGapF
import Derived.WideKeyArgs
namespace Go.Proofs.Ythkeofpmappdhaa
open Go.RowKit

theorem gapAnswers_any (G : GapC) (a b c d x y : Int) (w : World) (ha : Fits a) (hb : Fits b) (hx : Fits x) (hy : Fits y) :
    Calls Try.prog 3 #[gapV a b, gapV c d, .int .i64 x, .int .i64 y] w fun e w' => e = .returned (.bool true) ∧ Below w.heap.size w w' := by
  by_cases hr : a ≤ b
  · by_cases hk : a ≤ x
    · exact gapAnswers_in G a b c d x y w ha hb hx hy hr hk
    · exact gapAnswers_lt G a b c d x y w ha hb hx hy hr (by omega)
  · exact gapAnswers_no G a b c d x y w ha hb hx hy hr

namespace gapAnswers
open Go.ChangeShapes Go.WideShapes Go.ChangeAt Go.RowKit
theorem own : ownKnob Try.prog.godebug = none := by kernel_rfl
theorem laidOut : laidOutB Try.prog = true := by kernel_rfl
set_option maxRecDepth 100000 in
theorem lifted (os : Os) (started : os.Started) (H : Type) (enc : TypeId × Value → H) :
    ReturnsInHanded {} Try.checked os 3 .any (Rows.gapAnswersSpec.pre6 enc Try.prog Try.f3 Rows.gapAnswersRow.domain false) (Rows.gapAnswersSpec.post enc Try.prog Try.f3 false true false false) := by
  refine returnsInHanded_of_change (C := Try.checked) own started (by kernel_rfl) Try.func3
    (ChangeSpec.witness6 (enc := enc) (C := Try.checked) false ⟨#[], #[.agg #[.int .i64 0, .int .i64 0], .agg #[.int .i64 0, .int .i64 0], .int .i64 0, .int .i64 0], []⟩ 8 (by kernel_rfl) (by kernel_rfl) (by kernel_rfl) (by kernel_rfl)) ?_
  intro W base args ds gs before hval0 hW hcnd _
  have hval : ∀ (j : Nat) t v, Try.f3.params[j]? = some t → args[j]? = some v → Value.okWide Try.prog W .any base t v := hval0
  have hW' := hW
  obtain ⟨p, q, hA0, hV, rfl, hfz, hnd⟩ := hW
  have hA : DataW.TrodAll enc Try.prog W 0 (fun _ => true) true Try.f3.params.toList args.toList ds p := hA0
  rw [Try.params3] at hA hval
  obtain ⟨v0, vs0, d0, ds0, p0, q0, hargs, rfl, rfl, h0, r0⟩ := trodAll_cons hA
  obtain ⟨v1, vs1, d1, ds1, p1, q1, rfl, rfl, rfl, h1, r1⟩ := trodAll_cons r0
  obtain ⟨v2, vs2, d2, ds2, p2, q2, rfl, rfl, rfl, h2, r2⟩ := trodAll_cons r1
  obtain ⟨v3, vs3, d3, ds3, p3, q3, rfl, rfl, rfl, h3, r3⟩ := trodAll_cons r2
  obtain ⟨rfl, rfl, rfl⟩ := trodAll_nil r3
  obtain rfl : args = #[v0, v1, v2, v3] := by cases args; simp_all
  obtain ⟨rfl, rfl⟩ := trodVars_none hV
  obtain ⟨a0, b0, f0, g0, rfl, rfl, rfl, w0, x0⟩ := open_gap (hval 0 23 v0 rfl rfl) h0
  obtain ⟨a1, b1, f1, g1, rfl, rfl, rfl, w1, x1⟩ := open_gap (hval 1 23 v1 rfl rfl) h1
  obtain ⟨a2, rfl, rfl, rfl, w2⟩ := open_int Try.underlying2 (hval 2 2 v2 rfl rfl) h2
  obtain ⟨a3, rfl, rfl, rfl, w3⟩ := open_int Try.underlying2 (hval 3 2 v3 rfl rfl) h3
  clear hA0 hval0 hcnd
  simp only [List.append_nil] at hW'
  refine (gapAnswers_any gapC a0 b0 a1 b1 a2 a3 W f0 g0 (fits_wf w2) (fits_wf w3)).mono fun e W' ⟨he, hg⟩ => ?_
  subst he
  exact ⟨_, rfl, post_of_below (pa := (([] : List MemPlace) ++ (([] : List MemPlace) ++ (([] : List MemPlace) ++ (([] : List MemPlace) ++ []))))) (pv := []) hW' (fun _ _ _ => (trodAll_cons_mk (shut_bool Try.underlying4 _) trodAll_mk0)) (fun sp _ => (trodAll_cons_mk (shut_gap w0 x0) (trodAll_cons_mk (shut_gap w1 x1) (trodAll_cons_mk (shut_int Try.underlying2 w2) (trodAll_cons_mk (shut_int Try.underlying2 w3) trodAll_mk0))))) (fun _ _ => rfl) (by simp)
    hg (ok_one (by kernel_rfl) rfl (okWide_bool_mk Try.underlying4 _))⟩

theorem over : Rows.gapAnswersRow.holds Try.pinned (OpenSpec.ofChange Rows.gapAnswersSpec) :=
  OpenClaim.holds_of_wide 3 Try.f3 rfl rfl rfl rfl rfl rfl rfl ⟨rfl, rfl, rfl, rfl, rfl⟩ rfl rfl rfl rfl rfl (by kernel_rfl) Try.func3 (by kernel_rfl)
    (of_decide_eq_true (by kernel_rfl)) (by unfold Func.isWrapper; first | (rw [if_pos (by decide +kernel)]; kernel_rfl) | (rw [if_neg (by decide +kernel)]; exact ⟨rfl, rfl⟩))
    (fun os started H enc _ => lifted os started H enc)
end gapAnswers

theorem gapAnswers_holds : Rows.GapAnswersSaid := gapAnswers.over
end Go.Proofs.Ythkeofpmappdhaa
