/- Package gap: Mid, walked. -/
import Derived.Test.YthkeofpmappdhaaGapP
import Derived.StillTailTactics
namespace Go.Proofs.Ythkeofpmappdhaa
open Go.RowKit

theorem mid_out {a b : Int} (ha : Fits a) (hb : Fits b) (h : a ≤ b) : IntKind.i64.wrap (a + IntKind.i64.wrap (IntKind.u64.wrap ((b - a).tdiv 2))) = (a + b) / 2 := by
  unfold Fits at *
  have e : (b - a).tdiv 2 = (b - a) / 2 := by rw [Int.tdiv_eq_ediv_of_nonneg (by omega)]
  rw [e]
  simp [IntKind.wrap, IntKind.signed, IntKind.bits]
  omega

set_option maxRecDepth 100000 in
set_option maxHeartbeats 1000000 in
theorem gMid_any (a b : Int) (w : World) (ha : Fits a) (hb : Fits b) :
    Calls Try.prog 15 #[.agg #[.int .i64 a, .int .i64 b]] w fun e w' => e = .returned (.int .i64 (midI a b)) ∧ Below w.heap.size w w' := by
  have CR := Lib.hid (gRight_any a b)
  have CW := Lib.hid fun W => gWidth_any a b W ha hb
  have hA := At2.new w (.int .i64 a) (.int .i64 b) 23
  have B0 := grew1 w (.cells #[.int .i64 a, .int .i64 b] 23)
  by_cases hr : b < a
  · have e1 : decide (a ≤ b) = false := decide_eq_false (by omega)
    have HS : Hid (midI a b = 0) := Lib.hid (if_pos hr)
    clear hr ha hb
    go_enter Try.func15, Try.ntmps15
    go_wp2_with fail
    refine (CR.out _).mono ?_; rintro e w1 ⟨rfl, h1⟩
    go_wp2_with fail
    go_ret
    exact ⟨ret_one HS.out.symm, ext_step B0 h1⟩
  · have e1 : decide (a ≤ b) = true := decide_eq_true (by omega)
    have HS : Hid (midI a b = (a + b) / 2) := Lib.hid (if_neg hr)
    rw [if_pos (show a ≤ b by omega)] at CW
    have HR := Lib.hid hr
    have HFA := Lib.hid ha
    have HFB := Lib.hid hb
    clear hr ha hb
    go_enter Try.func15, Try.ntmps15
    go_wp2_with fail
    refine (CR.out _).mono ?_; rintro e w1 ⟨rfl, h1⟩
    replace hA := hA.below h1
    have B1 := ext_step B0 h1
    go_wp2_with fail
    go_region_held3 (fun w' => w'.cell? ⟨w.heap.size, 0, none⟩ = some (.int .i64 a) ∧ w'.cell? ⟨w.heap.size, 1, none⟩ = some (.int .i64 b))
      ((first | exact ⟨hA.c0, hA.c1⟩ | exact ⟨A2.c0, A2.c1⟩))
      (first
        | (go_at_call 19; refine (CW.out _).mono ?_; rintro e w2 ⟨rfl, h2⟩; have A2 := hA.below (below_undrew h2); have B2 : Below w.heap.size w w2 := ext_step B1 (below_undrew h2)))
    go_wp2_with fail
    go_ret
    exact ⟨ret_one (by rw [HS.out]; exact mid_out HFA.out HFB.out HR.out), B2⟩
end Go.Proofs.Ythkeofpmappdhaa
