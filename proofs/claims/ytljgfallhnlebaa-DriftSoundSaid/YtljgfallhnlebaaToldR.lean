/- What the document's own ratio of longs answers. -/
import Derived.Test.YtljgfallhnlebaaTold0
import Derived.Test.YtljgfallhnlebaaRefHm
import Derived.Test.YtljgfallhnlebaaRefHd
namespace Go.Proofs.Ytljgfallhnlebaa
open Go.RowKit

/-- What a ratio of longs answers. -/
def ToldR (a b c : Int) (up : Bool) (w : World) (e : Ending) (w' : World) : Prop := e = .returned (.tuple #[.int .i64 (ratV a b c up), .int .i64 (ratE a b c up)]) ∧ Below w.heap.size w w'

set_option maxHeartbeats 1000000 in
theorem refRatio_any (a b c : Int) (up : Bool) (ha : Fits a) (hb : Fits b) (hc : Fits c) (w : World) : Calls Try.prog 24 #[.int .i64 a, .int .i64 b, .int .i64 c, .bool up] w (ToldR a b c up w) := by
  by_cases h : c < 1
  · have E1 : Hid (ratV a b c up = 0) := Lib.hid (if_pos h)
    have E2 : Hid (ratE a b c up = 11) := Lib.hid (if_pos h)
    clear ha hb hc
    go_enter Try.func24, Try.ntmps24
    go_wp2_with fail
    go_ret2
    exact ⟨ret_two E1.out.symm E2.out.symm, Below.refl _ _⟩
  · have h1 : 1 ≤ c := by omega
    have E1 := Lib.hid (ratV_in (a := a) (b := b) (up := up) h1)
    have E2 := Lib.hid (ratE_in (a := a) (b := b) (up := up) h1)
    have H1 := Lib.hid ha
    have H2 := Lib.hid hb
    have H3 := Lib.hid hc
    have hcl : c < 65536 ^ 8 := by rw [pow8]; unfold Fits at hc; omega
    have HCL := Lib.hid hcl
    have HR := Lib.hid (mag_rquo up ha hb h1)
    clear ha hb hc hcl
    go_enter Try.func24, Try.ntmps24
    go_wp2_with fail
    refine (of_any a w H1.out).mono ?_; rintro e w1 ⟨r1, rfl, hr1, hb1⟩
    go_wp2_with fail
    refine (of_any b w1 H2.out).mono ?_; rintro e w2 ⟨r2, rfl, hr2, hb2⟩
    go_wp2_with fail
    refine (mulN_any r1 r2 a b w2 4 (hr1.below hb2) hr2 (mag_long H1.out) (mag_long H2.out) (by omega)).mono ?_; rintro e w3 ⟨r3, rfl, hr3, hb3⟩
    go_wp2_with fail
    refine (of_any c w3 H3.out).mono ?_; rintro e w4 ⟨r4, rfl, hr4, hb4⟩
    go_wp2_with fail
    refine (divN_any r3 r4 (a * b) c up w4 8 (hr3.below hb4) hr4 (mag_prod H1.out H2.out) (by omega) HCL.out (by omega)).mono ?_; rintro e w5 ⟨r5, rfl, hr5, hb5⟩
    go_wp2_with fail
    refine (told_any r5 (rquo a b c up) w5 8 hr5 HR.out).mono ?_; rintro e w6 ⟨rfl, hb6⟩
    have s1 := hb1.size
    have s2 := hb2.size
    have s3 := hb3.size
    have s4 := hb4.size
    have s5 := hb5.size
    have hz := ((((hb1.trans (hb2.mono s1)).trans (hb3.mono (by omega))).trans (hb4.mono (by omega))).trans (hb5.mono (by omega))).trans (hb6.mono (by omega))
    clear hr1 hr2 hr3 hr4 hr5 hb1 hb2 hb3 hb4 hb5 hb6
    go_wp2_with fail
    go_ret2
    exact ⟨ret_two E1.out.symm E2.out.symm, hz⟩
end Go.Proofs.Ytljgfallhnlebaa
