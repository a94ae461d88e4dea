/- What law 5 asks of packages gap and wide: Right, Has, Of. -/
import Derived.Test.YtmafkknnekkcdaaAt2
import Derived.Test.YtmafkknnekkcdaaTwo
namespace Go.Proofs.Ytmafkknnekkcdaa
open Go.RowKit

set_option maxRecDepth 100000 in
set_option maxHeartbeats 400000 in
theorem hRight_any (a b : Int) (w : World) :
    Calls Try.prog 12 #[.agg #[.int .i64 a, .int .i64 b]] w fun e w' => e = .returned (.bool (decide (a ≤ b))) ∧ Below w.heap.size w w' := by
  go_enter Try.func12, Try.ntmps12
  go_wp2_with fail
  go_ret
  exact ⟨rfl, grew1 _ _⟩

set_option maxRecDepth 100000 in
set_option maxHeartbeats 400000 in
theorem hHas_any (a b x : Int) (w : World) :
    Calls Try.prog 13 #[.agg #[.int .i64 a, .int .i64 b], .int .i64 x] w fun e w' => e = .returned (.bool (decide (a ≤ x ∧ x ≤ b))) ∧ Below w.heap.size w w' := by
  by_cases h1 : a ≤ x
  · have e1 : decide (a ≤ x) = true := decide_eq_true h1
    have HE : Hid (decide (x ≤ b) = decide (a ≤ x ∧ x ≤ b)) := Lib.hid (decide_eq_decide.2 ⟨fun h => ⟨h1, h⟩, fun h => h.2⟩)
    rw [← HE.out]
    clear h1
    go_enter Try.func13, Try.ntmps13
    go_wp2_with fail
    go_ret
    exact ⟨rfl, grew1 _ _⟩
  · have e1 : decide (a ≤ x) = false := decide_eq_false h1
    have HE : Hid (false = decide (a ≤ x ∧ x ≤ b)) := Lib.hid (decide_eq_false fun h => h1 h.1).symm
    rw [← HE.out]
    clear h1
    go_enter Try.func13, Try.ntmps13
    go_wp2_with fail
    go_ret
    exact ⟨rfl, grew1 _ _⟩

set_option maxRecDepth 100000 in
set_option maxHeartbeats 400000 in
theorem hOfW_any (v : Int) (hv : Fits v) (w : World) :
    Calls Try.prog 27 #[.int .i64 v] w fun e w' => e = .returned (.agg #[.int .i64 ((v) / 18446744073709551616), .int .u64 ((v) % 18446744073709551616)]) ∧ Below w.heap.size w w' := by
  obtain ⟨h1, h2⟩ := long_words hv
  have H1 := Lib.hid h1
  have H2 := Lib.hid h2
  clear h1 h2 hv
  go_enter Try.func27, Try.ntmps27
  go_wp2
  exact bodyPost_ret (v := .agg #[.int .i64 (v / 9223372036854775808), .int .u64 (IntKind.u64.wrap v)]) (by simp [results, Try.results27, go_sem]) rfl ⟨by rw [H1.out, H2.out], grew1 _ _⟩
theorem hOfN_any (n : Nat) (w : World) (hn : n ≤ 1000000) :
    Calls Try.prog 27 #[.int .i64 n] w fun e w' => e = .returned (.agg #[.int .i64 0, .int .u64 n]) ∧ Below w.heap.size w w' := by
  have h := hOfW_any n (by unfold Fits; omega) w
  rwa [show (n : Int) / 18446744073709551616 = 0 by omega, show (n : Int) % 18446744073709551616 = n by omega] at h
end Go.Proofs.Ytmafkknnekkcdaa
