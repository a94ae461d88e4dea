/- What wide.Add answers; a number is said by its value, which fits two words. -/
import Derived.Test.YtmafkknnekkcdaaIntO
namespace Go.Proofs.Ytmafkknnekkcdaa
open Go.RowKit

theorem add2_eq (x y : Int) (hx : 0 ≤ x) (hy : 0 ≤ y) (w : World) :
    (callFunc 57 #[.int .u64 x, .int .u64 y, .int .u64 0]).run Try.prog w = .ok (.value (.tuple #[.int .u64 ((x + y) % 18446744073709551616), .int .u64 ((x + y) / 18446744073709551616)])) w := by
  rw [run_callFunc_extern Try.func57 (by kernel_rfl) (by kernel_rfl) (by kernel_rfl) (e := add64Entry) (by kernel_rfl), run_add64 x y 0 hx hy (Int.le_refl 0) (by omega)]
  rw [Int.add_zero]
  rfl

set_option maxRecDepth 100000 in
set_option maxHeartbeats 400000 in
theorem addW_any (a b : Int) (ha : Two a) (hb : Two b) (w : World) :
    Calls Try.prog 45 #[.agg #[.int .i64 ((a) / 18446744073709551616), .int .u64 ((a) % 18446744073709551616)], .agg #[.int .i64 ((b) / 18446744073709551616), .int .u64 ((b) % 18446744073709551616)]] w fun e w' => e = .returned (.tuple #[.agg #[.int .i64 ((twoV (a + b)) / 18446744073709551616), .int .u64 ((twoV (a + b)) % 18446744073709551616)], .int .i64 (twoE (a + b))]) ∧ Below w.heap.size w w' := by
  have hover := sum_over ha hb
  have hhi := sum_hi a b
  have hlo := (sum_words a b).2
  have e0 : ∀ W : World, _ := fun W => add2_eq (a % 18446744073709551616) (b % 18446744073709551616) (lo_bd a).1 (lo_bd b).1 W
  rw [← hlo] at e0
  rw [← hhi] at hover
  by_cases hF : Two (a + b)
  · have e := Lib.hid (hhi.trans (wrap_of_fits hF))
    have h1 := twoV_fit hF
    have h2 := twoE_fit hF
    simp only [hF, decide_true, Bool.not_true] at hover
    rw [h1, h2]
    clear hF h1 h2 hhi hlo ha hb
    go_enter Try.func45, Try.ntmps45
    go_wp2
    exact bodyPost_ret (v := .tuple #[.agg #[.int .i64 (wrap64 (wrap64 (a / 18446744073709551616 + b / 18446744073709551616) + (a % 18446744073709551616 + b % 18446744073709551616) / 18446744073709551616)), .int .u64 ((a + b) % 18446744073709551616)], .int .i64 0]) (by simp [results, Try.results45, go_sem]) rfl ⟨ret_we e.out rfl rfl, up3 _ _ _ _⟩
  · have h1 := Lib.hid (twoV_over hF)
    have h2 := Lib.hid (twoE_over hF)
    simp only [hF, decide_false, Bool.not_false] at hover
    rw [h1.out, h2.out]
    clear hF h1 h2 hhi hlo ha hb
    go_enter Try.func45, Try.ntmps45
    go_wp2
    exact bodyPost_ret (v := .tuple #[.agg #[.int .i64 0, .int .u64 0], .int .i64 12]) (by simp [results, Try.results45, go_sem]) rfl ⟨rfl, up3 _ _ _ _⟩
end Go.Proofs.Ytmafkknnekkcdaa
