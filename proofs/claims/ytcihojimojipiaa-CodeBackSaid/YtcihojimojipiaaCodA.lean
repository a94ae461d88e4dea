/- The document's turned numbers, and their bytes, walked. -/
import Derived.Test.YtcihojimojipiaaCodU
namespace Go.Proofs.Ytcihojimojipiaa
open Go.RowKit

set_option maxRecDepth 100000 in
set_option maxHeartbeats 400000 in
theorem rTurn_any (v : Int) (w : World) (hv : Fits v) : Calls Try.prog 14 #[.int .i64 v] w fun e w' => e = .returned (.int .u64 (turnI v)) ∧ w = w' := by
  by_cases h : 0 ≤ v
  · have HE : Hid (turnI v = 2 * v) := Lib.hid (if_pos h)
    have h1 : v ≤ 9223372036854775807 := by unfold Fits at hv; omega
    go_enter Try.func14, Try.ntmps14
    go_wp2_with fail
    go_ret
    exact ⟨ret_one HE.out.symm, rfl⟩
  · have HE : Hid (turnI v = 2 * (-(v + 1)) + 1) := Lib.hid (if_neg h)
    have h1 : -9223372036854775808 ≤ v := by unfold Fits at hv; omega
    go_enter Try.func14, Try.ntmps14
    go_wp2_with fail
    go_ret
    exact ⟨ret_one HE.out.symm, rfl⟩

set_option maxRecDepth 100000 in
set_option maxHeartbeats 400000 in
theorem rUnturn_any (u : Int) (w : World) (h0 : 0 ≤ u) (h1 : u < 18446744073709551616) : Calls Try.prog 11 #[.int .u64 u] w fun e w' => e = .returned (.int .i64 (unturnI u)) ∧ w = w' := by
  by_cases h : u % 2 = 0
  · have HE : Hid (unturnI u = u / 2) := Lib.hid (if_pos h)
    go_enter Try.func11, Try.ntmps11
    go_wp2_with fail
    go_ret
    exact ⟨ret_one HE.out.symm, rfl⟩
  · have HE : Hid (unturnI u = -(u / 2) - 1) := Lib.hid (if_neg h)
    go_enter Try.func11, Try.ntmps11
    go_wp2_with fail
    go_ret
    exact ⟨ret_one HE.out.symm, rfl⟩

set_option maxRecDepth 100000 in
set_option maxHeartbeats 400000 in
theorem rInt_any (v : Int) (w : World) (hv : Fits v) : Calls Try.prog 13 #[.int .i64 v] w (Copied 5 .u8 w (lebL (turnI v).toNat)) := by
  have CT := Lib.hid fun W => rTurn_any v W hv
  obtain ⟨h0, h1⟩ := turn_bd hv
  have CU := Lib.hid fun W => rUint_any (turnI v).toNat W (by omega)
  rw [Int.toNat_of_nonneg h0] at CU
  generalize turnI v = u at *
  go_enter Try.func13, Try.ntmps13
  go_wp2_with fail
  refine (CT.out _).mono ?_; rintro e w1 ⟨rfl, rfl⟩
  go_wp2_with fail
  refine (CU.out _).mono ?_; rintro e w2 ⟨x, rfl, hO, hB⟩
  go_wp2_with fail
  go_ret
  exact ⟨_, rfl, hO, hB⟩

end Go.Proofs.Ytcihojimojipiaa
