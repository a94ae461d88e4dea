/- A whole number told as a long, or that it is out of range; sums and differences told so. -/
import Derived.Test.YthkeofpmappdhaaRefE
import Derived.Test.YthkeofpmappdhaaRefH0
namespace Go.Proofs.Ythkeofpmappdhaa
open Go.RowKit

set_option maxHeartbeats 1000000 in
theorem told_any (r : Value) (x : Int) (w : World) (L : Nat) (h : NumV w r x) (hx : mag x < 65536 ^ L) :
    Calls Try.prog 39 #[r] w fun e w' => e = .returned (.tuple #[.int .i64 (toldV x), .int .i64 (toldE x)]) ∧ Below w.heap.size w w' := by
  obtain ⟨s, A, n, c, rfl, hs, hn⟩ := h.form
  have hb := below_new w (.cells #[.bool s, .slice A n c] 57)
  have CL := Lib.hid (long_any _ x _ L (h.below hb) hx)
  clear h hs hn hx
  by_cases hf : Fits x
  · have e1 := Lib.hid (toldV_fit hf)
    have e2 := Lib.hid (toldE_fit hf)
    have hd : decide (Fits x) = true := decide_eq_true hf
    go_enter Try.func39, Try.ntmps39
    go_wp2_with fail
    refine (CL.out).mono ?_; rintro e w1 ⟨lv, rfl, hlv, hb1⟩
    have HL := Lib.hid (hlv hf)
    clear hlv
    go_wp2_with fail
    go_ret2
    exact ⟨ret_two (HL.out.trans e1.out.symm) e2.out.symm, hb.trans (hb1.mono hb.size)⟩
  · have e1 := Lib.hid (toldV_over hf)
    have e2 := Lib.hid (toldE_over hf)
    have hd : decide (Fits x) = false := decide_eq_false hf
    go_enter Try.func39, Try.ntmps39
    go_wp2_with fail
    refine (CL.out).mono ?_; rintro e w1 ⟨lv, rfl, hlv, hb1⟩
    clear hlv
    go_wp2_with fail
    go_ret2
    exact ⟨ret_two e1.out.symm e2.out.symm, hb.trans (hb1.mono hb.size)⟩
/-- What is told of a number. -/
def Told (x : Int) (w : World) (e : Ending) (w' : World) : Prop := e = .returned (.tuple #[.int .i64 (toldV x), .int .i64 (toldE x)]) ∧ Below w.heap.size w w'

set_option maxHeartbeats 1000000 in
theorem refPlus_any (a b : Int) (ha : Fits a) (hb : Fits b) (w : World) : Calls Try.prog 29 #[.int .i64 a, .int .i64 b] w (Told (a + b) w) := by
  have H1 := Lib.hid ha
  have H2 := Lib.hid hb
  clear ha hb
  go_enter Try.func29, Try.ntmps29
  go_wp2_with fail
  refine (of_any a w H1.out).mono ?_; rintro e w1 ⟨r1, rfl, hr1, hb1⟩
  go_wp2_with fail
  refine (of_any b w1 H2.out).mono ?_; rintro e w2 ⟨r2, rfl, hr2, hb2⟩
  go_wp2_with fail
  refine (addN_any r1 r2 a b w2 4 (hr1.below hb2) hr2 (mag_long H1.out) (mag_long H2.out) (by omega)).mono ?_; rintro e w3 ⟨r3, rfl, hr3, hb3⟩
  go_wp2_with fail
  refine (told_any r3 (a + b) w3 8 hr3 (by have := H1.out; have := H2.out; rw [pow8]; unfold Fits at *; unfold mag; split <;> omega)).mono ?_; rintro e w4 ⟨rfl, hb4⟩
  have hz := hb1.trans (((hb2.trans (hb3.mono hb2.size)).trans (hb4.mono (Nat.le_trans hb2.size hb3.size))).mono hb1.size)
  clear hr1 hr2 hr3 hb1 hb2 hb3 hb4
  go_wp2_with fail
  go_ret2
  exact ⟨rfl, hz⟩

set_option maxHeartbeats 1000000 in
theorem refMinus_any (a b : Int) (ha : Fits a) (hb : Fits b) (w : World) : Calls Try.prog 30 #[.int .i64 a, .int .i64 b] w (Told (a - b) w) := by
  have H1 := Lib.hid ha
  have H2 := Lib.hid hb
  have hm : mag (-b) < 65536 ^ 4 := by
    have := mag_long hb
    have e : mag (-b) = mag b := by unfold mag; split <;> split <;> omega
    rw [e]; exact this
  have HM := Lib.hid hm
  clear ha hb hm
  go_enter Try.func30, Try.ntmps30
  go_wp2_with fail
  refine (of_any a w H1.out).mono ?_; rintro e w1 ⟨r1, rfl, hr1, hb1⟩
  go_wp2_with fail
  refine (of_any b w1 H2.out).mono ?_; rintro e w2 ⟨r2, rfl, hr2, hb2⟩
  go_wp2_with fail
  refine (neg_any r2 b w2 4 hr2 (mag_long H2.out) (by omega)).mono ?_; rintro e w3 ⟨r3, rfl, hr3, hb3⟩
  go_wp2_with fail
  refine (addN_any r1 r3 a (-b) w3 4 ((hr1.below hb2).below hb3) hr3 (mag_long H1.out) HM.out (by omega)).mono ?_; rintro e w4 ⟨r4, rfl, hr4, hb4⟩
  go_wp2_with fail
  refine (told_any r4 (a + -b) w4 8 hr4 (by have := H1.out; have := H2.out; rw [pow8]; unfold Fits at *; unfold mag; split <;> omega)).mono ?_; rintro e w5 ⟨rfl, hb5⟩
  have hz := hb1.trans ((((hb2.trans (hb3.mono hb2.size)).trans (hb4.mono (Nat.le_trans hb2.size hb3.size))).trans (hb5.mono (Nat.le_trans hb2.size (Nat.le_trans hb3.size hb4.size)))).mono hb1.size)
  have HE : Hid (a + -b = a - b) := Lib.hid (by omega)
  clear hr1 hr2 hr3 hr4 hb1 hb2 hb3 hb4 hb5
  go_wp2_with fail
  go_ret2
  exact ⟨ret_two (by rw [← HE.out]) (by rw [← HE.out]), hz⟩

end Go.Proofs.Ythkeofpmappdhaa
