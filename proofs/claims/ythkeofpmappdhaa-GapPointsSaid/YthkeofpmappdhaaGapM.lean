/- The document's own middle of a gap, walked. -/
import Derived.Test.YthkeofpmappdhaaGapA
namespace Go.Proofs.Ythkeofpmappdhaa
open Go.RowKit

theorem mid_fits {a b : Int} (ha : Fits a) (hb : Fits b) : Fits (divI (a + b) 2 false) := by
  show Fits ((a + b) / 2)
  unfold Fits at *; omega
theorem mid_mag {a b : Int} (ha : Fits a) (hb : Fits b) : mag (a + b) < 65536 ^ 5 ∧ mag (divI (a + b) 2 false) < 65536 ^ 5 := by
  have e : (65536 : Int) ^ 5 = 1208925819614629174706176 := by decide
  have h := mid_fits ha hb
  rw [e]
  unfold Fits at *; unfold mag
  constructor <;> split <;> omega
theorem long_mag5 {a : Int} (h : Fits a) : mag a < 65536 ^ 5 := by
  have e : (65536 : Int) ^ 5 = 1208925819614629174706176 := by decide
  rw [e]; unfold Fits at h; unfold mag; split <;> omega

set_option maxRecDepth 100000 in
set_option maxHeartbeats 2000000 in
theorem rMid_any (a b : Int) (w : World) (ha : Fits a) (hb : Fits b) :
    Calls Try.prog 16 #[.agg #[.int .i64 a, .int .i64 b]] w fun e w' => e = .returned (.int .i64 (midI a b)) ∧ Below w.heap.size w w' := by
  have CR := Lib.hid (rRight_any a b)
  have C2 := Lib.hid fun W => of_any 2 W (by decide)
  have CA := Lib.hid fun W => of_any a W ha
  have CB := Lib.hid fun W => of_any b W hb
  have MA := Lib.hid (long_mag5 ha)
  have MB := Lib.hid (long_mag5 hb)
  have MS := Lib.hid (mid_mag ha hb)
  have MF := Lib.hid (mid_fits ha hb)
  have hA := At2.new w (.int .i64 a) (.int .i64 b) 31
  have B0 := grew1 w (.cells #[.int .i64 a, .int .i64 b] 31)
  by_cases hr : b < a
  · have e1 : decide (a ≤ b) = false := decide_eq_false (by omega)
    have HS : Hid (midI a b = 0) := Lib.hid (if_pos hr)
    clear hr ha hb
    go_enter Try.func16, Try.ntmps16
    go_wp2_with fail
    refine (CR.out _).mono ?_; rintro e w1 ⟨rfl, h1⟩
    go_wp2_with fail
    go_ret
    exact ⟨ret_one HS.out.symm, ext_step B0 h1⟩
  · have e1 : decide (a ≤ b) = true := decide_eq_true (by omega)
    have HS : Hid (midI a b = (a + b) / 2) := Lib.hid (if_neg hr)
    clear hr ha hb
    go_enter Try.func16, Try.ntmps16
    go_wp2_with fail
    refine (CR.out _).mono ?_; rintro e w1 ⟨rfl, h1⟩
    replace hA := hA.below h1
    have B1 := ext_step B0 h1
    go_wp2_with fail
    refine (C2.out _).mono ?_; rintro e w2 ⟨r2, rfl, hr2, h2⟩
    replace hA := hA.below h2
    have B2 := ext_step B1 h2
    obtain ⟨s2, A2, n2, c2, rfl, -, -⟩ := hr2.form
    have hT := NumAt.new hr2 57
    replace hA := hA.alloc (.cells #[.bool s2, .slice A2 n2 c2] 57)
    have hBL := ext_alloc B2 (.cells #[.bool s2, .slice A2 n2 c2] 57)
    have HBL := Lib.hid hBL
    clear hBL B0 B1 B2 h1 h2 hr2
    go_upto_region 4 with fail
    change Code.wp _ _ _ _ (w2.alloc (.cells #[.bool s2, .slice A2 n2 c2] 57))
    generalize hgT : w2.heap.size = gT at *
    generalize w2.alloc (.cells #[.bool s2, .slice A2 n2 c2] 57) = W at *
    have HW5 : Hid (mag 2 < (65536 : Int) ^ 5) := Lib.hid (by decide)
    go_region_held3 (fun w' => w'.cell? ⟨w.heap.size, 0, none⟩ = some (.int .i64 a) ∧ w'.cell? ⟨w.heap.size, 1, none⟩ = some (.int .i64 b) ∧ w'.cell? ⟨gT, 0, none⟩ = some (.bool s2) ∧ w'.cell? ⟨gT, 1, none⟩ = some (.slice A2 n2 c2))
      ((first | exact ⟨hA.c0, hA.c1, hT.c0, hT.c1⟩ | exact ⟨A3.c0, A3.c1, T3.c0, T3.c1⟩ | exact ⟨A4.c0, A4.c1, T4.c0, T4.c1⟩ | exact ⟨A5.c0, A5.c1, T5.c0, T5.c1⟩ | exact ⟨A6.c0, A6.c1, T6.c0, T6.c1⟩ | exact ⟨A7.c0, A7.c1, T7.c0, T7.c1⟩))
      (first
        | (go_at_call 32; refine (long_any _ (divI (a + b) 2 false) _ 5 (by exact hr6) MS.out.2).mono ?_; rintro e w7 ⟨lv, rfl, hlv, hq7⟩; have A7 := A6.below hq7; have T7 := T6.below hq7; have e7 : Below w.heap.size w w7 := ext_step e6 hq7)
        | (go_at_call 33; refine (divN_any _ _ (a + b) 2 false _ 5 (by exact hr5) (by exact T5.num) MS.out.1 (by omega) HW5.out (by omega)).mono ?_; rintro e w6 ⟨r6, rfl, hr6, hq6⟩; have A6 := A5.below hq6; have T6 := T5.below hq6; have e6 : Below w.heap.size w w6 := ext_step e5 hq6)
        | (go_at_call 34; refine (addN_any _ _ a b _ 5 (by exact hr3') (by exact hr4) MA.out MB.out (by omega)).mono ?_; rintro e w5 ⟨r5, rfl, hr5, hq5⟩; have A5 := A4.below hq5; have T5 := T4.below hq5; have e5 : Below w.heap.size w w5 := ext_step e4 hq5)
        | (go_at_call_of 31 a; refine (CA.out _).mono ?_; rintro e w3 ⟨r3, rfl, hr3, hq3⟩; have A3 := hA.below (below_undrew hq3); have T3 := hT.below (below_undrew hq3); have e3 : Below w.heap.size w w3 := ext_step HBL.out (below_undrew hq3))
        | (go_at_call_of 31 b; refine (CB.out _).mono ?_; rintro e w4 ⟨r4, rfl, hr4, hq4⟩; have A4 := A3.below hq4; have T4 := T3.below hq4; have hr3' := hr3.below hq4; have e4 : Below w.heap.size w w4 := ext_step e3 hq4))
    go_wp2_with fail
    go_ret
    exact ⟨ret_one (by rw [HS.out]; exact hlv MF.out), e7⟩
end Go.Proofs.Ythkeofpmappdhaa
