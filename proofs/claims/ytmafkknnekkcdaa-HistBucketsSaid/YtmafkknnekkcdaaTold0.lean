/- A whole number told as a long, or that it is out of range. -/
import Derived.Test.YtmafkknnekkcdaaRefE
import Derived.Test.YtmafkknnekkcdaaRefH0
namespace Go.Proofs.Ytmafkknnekkcdaa
open Go.RowKit

set_option maxHeartbeats 1000000 in
theorem told_any (r : Value) (x : Int) (w : World) (L : Nat) (h : NumV w r x) (hx : mag x < 65536 ^ L) :
    Calls Try.prog 50 #[r] w fun e w' => e = .returned (.tuple #[.int .i64 (toldV x), .int .i64 (toldE x)]) ∧ Below w.heap.size w w' := by
  obtain ⟨s, A, n, c, rfl, hs, hn⟩ := h.form
  have hb := below_new w (.cells #[.bool s, .slice A n c] 50)
  have CL := Lib.hid (long_any _ x _ L (h.below hb) hx)
  clear h hs hn hx
  by_cases hf : Fits x
  · have e1 := Lib.hid (toldV_fit hf)
    have e2 := Lib.hid (toldE_fit hf)
    have hd : decide (Fits x) = true := decide_eq_true hf
    go_enter Try.func50, Try.ntmps50
    go_wp2_with fail
    refine (CL.out).mono ?_; rintro e w1 ⟨lv, rfl, hlv, hb1⟩
    have HL := Lib.hid (hlv hf)
    clear hlv
    go_wp2_with fail
    go_ret2
    exact ⟨ret_two (HL.out.trans e1.out.symm) e2.out.symm, hb.trans (hb1.mono hb.size)⟩
  · have e1 := Lib.hid (toldV_over hf)
    have e2 := Lib.hid (toldE_over hf)
    have hd : decide (Fits x) = false := decide_eq_false hf
    go_enter Try.func50, Try.ntmps50
    go_wp2_with fail
    refine (CL.out).mono ?_; rintro e w1 ⟨lv, rfl, hlv, hb1⟩
    clear hlv
    go_wp2_with fail
    go_ret2
    exact ⟨ret_two e1.out.symm e2.out.symm, hb.trans (hb1.mono hb.size)⟩
/-- What is told of a number. -/
def Told (x : Int) (w : World) (e : Ending) (w' : World) : Prop := e = .returned (.tuple #[.int .i64 (toldV x), .int .i64 (toldE x)]) ∧ Below w.heap.size w w'
end Go.Proofs.Ytmafkknnekkcdaa
