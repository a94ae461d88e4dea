/- What safe.Add answers, as a walk over their text: the exact result where it fits, else the error's number; the world is as it was. -/
import Derived.Test.YtmafkknnekkcdaaRows
import Derived.Test.YtmafkknnekkcdaaNum
import Derived.WalkSpells
import Derived.WalkLawsBesides
import Derived.IntWalk
namespace Go.Proofs.Ytmafkknnekkcdaa
open Go.RowKit

set_option maxRecDepth 100000 in
set_option maxHeartbeats 400000 in
theorem add_any (a b : Int) (ha : Fits a) (hb : Fits b) (w : World) :
    Calls Try.prog 31 #[.int .i64 a, .int .i64 b] w fun e w' => e = .returned (.tuple #[.int .i64 (toldV (a + b)), .int .i64 (toldE (a + b))]) ∧ w = w' := by
  have hover := add_over ha hb
  clear ha hb
  by_cases hF : Fits (a + b)
  · have e := Lib.hid (wrap_of_fits hF)
    have h1 := toldV_fit hF
    have h2 := toldE_fit hF
    simp only [hF, decide_true, Bool.not_true] at hover
    rw [h1, h2]
    clear hF h1 h2
    go_enter Try.func31, Try.ntmps31
    go_wp2
    go_ret2
    exact ⟨ret_two e.out rfl, rfl⟩
  · have h1 := toldV_over hF
    have h2 := toldE_over hF
    simp only [hF, decide_false, Bool.not_false] at hover
    rw [h1, h2]
    clear hF h1 h2
    go_enter Try.func31, Try.ntmps31
    go_wp2
    go_ret2
    exact ⟨rfl, rfl⟩
end Go.Proofs.Ytmafkknnekkcdaa
