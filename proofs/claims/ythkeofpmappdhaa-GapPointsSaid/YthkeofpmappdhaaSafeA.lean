/- What safe.Add and safe.Sub answer, as a walk over their text: the exact result where it fits, else the error's number; the world is as it was. -/
import Derived.Test.YthkeofpmappdhaaRows
import Derived.Test.YthkeofpmappdhaaNum
import Derived.WalkSpells
import Derived.WalkLawsBesides
import Derived.IntWalk
namespace Go.Proofs.Ythkeofpmappdhaa
open Go.RowKit

set_option maxRecDepth 100000 in
set_option maxHeartbeats 400000 in
theorem add_any (a b : Int) (ha : Fits a) (hb : Fits b) (w : World) :
    Calls Try.prog 25 #[.int .i64 a, .int .i64 b] w fun e w' => e = .returned (.tuple #[.int .i64 (toldV (a + b)), .int .i64 (toldE (a + b))]) ∧ w = w' := by
  have hover := add_over ha hb
  clear ha hb
  by_cases hF : Fits (a + b)
  · have e := Lib.hid (wrap_of_fits hF)
    have h1 := toldV_fit hF
    have h2 := toldE_fit hF
    simp only [hF, decide_true, Bool.not_true] at hover
    rw [h1, h2]
    clear hF h1 h2
    go_enter Try.func25, Try.ntmps25
    go_wp2
    go_ret2
    exact ⟨ret_two e.out rfl, rfl⟩
  · have h1 := toldV_over hF
    have h2 := toldE_over hF
    simp only [hF, decide_false, Bool.not_false] at hover
    rw [h1, h2]
    clear hF h1 h2
    go_enter Try.func25, Try.ntmps25
    go_wp2
    go_ret2
    exact ⟨rfl, rfl⟩

set_option maxRecDepth 100000 in
set_option maxHeartbeats 400000 in
theorem sub_any (a b : Int) (ha : Fits a) (hb : Fits b) (w : World) :
    Calls Try.prog 26 #[.int .i64 a, .int .i64 b] w fun e w' => e = .returned (.tuple #[.int .i64 (toldV (a - b)), .int .i64 (toldE (a - b))]) ∧ w = w' := by
  have hover := sub_over ha hb
  clear ha hb
  by_cases hF : Fits (a - b)
  · have e := Lib.hid (wrap_of_fits hF)
    have h1 := toldV_fit hF
    have h2 := toldE_fit hF
    simp only [hF, decide_true, Bool.not_true] at hover
    rw [h1, h2]
    clear hF h1 h2
    go_enter Try.func26, Try.ntmps26
    go_wp2
    go_ret2
    exact ⟨ret_two e.out rfl, rfl⟩
  · have h1 := toldV_over hF
    have h2 := toldE_over hF
    simp only [hF, decide_false, Bool.not_false] at hover
    rw [h1, h2]
    clear hF h1 h2
    go_enter Try.func26, Try.ntmps26
    go_wp2
    go_ret2
    exact ⟨rfl, rfl⟩
end Go.Proofs.Ythkeofpmappdhaa
