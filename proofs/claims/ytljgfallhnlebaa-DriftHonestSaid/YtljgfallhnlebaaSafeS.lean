/- What safe.size and safe.signed answer, as a walk over their text: a magnitude; a magnitude with its sign, or the error's number; the world is as it was. -/
import Derived.Test.YtljgfallhnlebaaRows
import Derived.Test.YtljgfallhnlebaaNum
import Derived.Test.YtljgfallhnlebaaBits
import Derived.WalkSpells
import Derived.WalkLawsBesides
import Derived.BigQuiet
import Derived.Deep.DeepFit
import Derived.IntWalk
namespace Go.Proofs.Ytljgfallhnlebaa
open Go.RowKit

set_option maxRecDepth 100000 in
set_option maxHeartbeats 400000 in
theorem size_any (a : Int) (ha : Fits a) (w : World) :
    Calls Try.prog 31 #[.int .i64 a] w fun e w' => e = .returned (.int .u64 (mag a)) ∧ w = w' := by
  obtain ⟨h1, h2⟩ := ha
  by_cases h : a < 0
  · rw [mag_neg h]
    go_enter Try.func31, Try.ntmps31
    go_wp2
    go_ret
    exact ⟨ret_one (wrap_mag h1 h), rfl⟩
  · rw [mag_pos h]
    go_enter Try.func31, Try.ntmps31
    go_wp2
    go_ret
    exact ⟨rfl, rfl⟩

set_option maxRecDepth 100000 in
set_option maxHeartbeats 400000 in
theorem signed_any (neg : Bool) (n : Int) (h0 : 0 ≤ n) (h1 : n ≤ 18446744073709551615) (w : World) :
    Calls Try.prog 33 #[.bool neg, .int .u64 n] w fun e w' => e = .returned (.tuple #[.int .i64 (toldV (sided neg n)), .int .i64 (toldE (sided neg n))]) ∧ w = w' := by
  cases neg
  · by_cases h : n ≤ 9223372036854775807
    · have hf : Fits (sided false n) := (sided_fit h0).2 (by simpa using h)
      rw [toldV_fit hf, toldE_fit hf, show sided false n = n from rfl]
      clear hf
      go_enter Try.func33, Try.ntmps33
      go_wp2
      go_ret2
      exact ⟨rfl, rfl⟩
    · have hf : ¬ Fits (sided false n) := fun k => h (by simpa using (sided_fit h0).1 k)
      rw [toldV_over hf, toldE_over hf]
      clear hf
      go_enter Try.func33, Try.ntmps33
      go_wp2
      go_ret2
      exact ⟨rfl, rfl⟩
  · by_cases h : n ≤ 9223372036854775808
    · have hf : Fits (sided true n) := (sided_fit h0).2 (by simpa using h)
      rw [toldV_fit hf, toldE_fit hf, show sided true n = -n from rfl]
      clear hf
      go_enter Try.func33, Try.ntmps33
      go_wp2
      go_ret2
      exact ⟨ret_two (wrap_side h0 h) rfl, rfl⟩
    · have hf : ¬ Fits (sided true n) := fun k => h (by simpa using (sided_fit h0).1 k)
      rw [toldV_over hf, toldE_over hf]
      clear hf
      go_enter Try.func33, Try.ntmps33
      go_wp2
      go_ret2
      exact ⟨rfl, rfl⟩
end Go.Proofs.Ytljgfallhnlebaa
