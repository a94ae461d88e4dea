/- What each function of package safe answers, as a walk over its text: the exact result where it fits, else the error's number; the world is as it was. -/
import Derived.Test.YtncankjgmchckaaRows
import Derived.Test.YtncankjgmchckaaNum
import Derived.Test.YtncankjgmchckaaShelf
import Derived.WalkSpells
import Derived.WalkLawsBesides
import Derived.BigQuiet
import Derived.Deep.DeepFit
import Derived.IntWalk
namespace Go.Proofs.Ytncankjgmchckaa
open Go.RowKit

set_option maxHeartbeats 400000 in
theorem add_any (a b : Int) (ha : Fits a) (hb : Fits b) (w : World) :
    Calls Try.prog 9 #[.int .i64 a, .int .i64 b] w fun e w' => e = .returned (.tuple #[.int .i64 (toldV (a + b)), .int .i64 (toldE (a + b))]) ∧ w = w' := by
  have hover := add_over ha hb
  clear ha hb
  by_cases hF : Fits (a + b)
  · have e := Lib.hid (wrap_of_fits hF)
    have h1 := toldV_fit hF
    have h2 := toldE_fit hF
    simp only [hF, decide_true, Bool.not_true] at hover
    rw [h1, h2]
    clear hF h1 h2
    go_enter Try.func9, Try.ntmps9
    go_wp2
    go_ret2
    exact ⟨ret_two e.out rfl, rfl⟩
  · have h1 := toldV_over hF
    have h2 := toldE_over hF
    simp only [hF, decide_false, Bool.not_false] at hover
    rw [h1, h2]
    clear hF h1 h2
    go_enter Try.func9, Try.ntmps9
    go_wp2
    go_ret2
    exact ⟨rfl, rfl⟩

set_option maxHeartbeats 400000 in
theorem sub_any (a b : Int) (ha : Fits a) (hb : Fits b) (w : World) :
    Calls Try.prog 10 #[.int .i64 a, .int .i64 b] w fun e w' => e = .returned (.tuple #[.int .i64 (toldV (a - b)), .int .i64 (toldE (a - b))]) ∧ w = w' := by
  have hover := sub_over ha hb
  clear ha hb
  by_cases hF : Fits (a - b)
  · have e := Lib.hid (wrap_of_fits hF)
    have h1 := toldV_fit hF
    have h2 := toldE_fit hF
    simp only [hF, decide_true, Bool.not_true] at hover
    rw [h1, h2]
    clear hF h1 h2
    go_enter Try.func10, Try.ntmps10
    go_wp2
    go_ret2
    exact ⟨ret_two e.out rfl, rfl⟩
  · have h1 := toldV_over hF
    have h2 := toldE_over hF
    simp only [hF, decide_false, Bool.not_false] at hover
    rw [h1, h2]
    clear hF h1 h2
    go_enter Try.func10, Try.ntmps10
    go_wp2
    go_ret2
    exact ⟨rfl, rfl⟩

set_option maxHeartbeats 400000 in
theorem size_any (a : Int) (ha : Fits a) (w : World) :
    Calls Try.prog 23 #[.int .i64 a] w fun e w' => e = .returned (.int .u64 (mag a)) ∧ w = w' := by
  obtain ⟨h1, h2⟩ := ha
  by_cases h : a < 0
  · rw [mag_neg h]
    go_enter Try.func23, Try.ntmps23
    go_wp2
    go_ret
    exact ⟨ret_one (wrap_mag h1 h), rfl⟩
  · rw [mag_pos h]
    go_enter Try.func23, Try.ntmps23
    go_wp2
    go_ret
    exact ⟨rfl, rfl⟩

set_option maxHeartbeats 400000 in
theorem clamp_any (a b c : Int) (w : World) :
    Calls Try.prog 21 #[.int .i64 a, .int .i64 b, .int .i64 c] w fun e w' => e = .returned (.int .i64 (min (max a b) c)) ∧ w = w' := by
  go_enter Try.func21, Try.ntmps21
  go_wp2
  go_ret
  exact ⟨rfl, rfl⟩

set_option maxHeartbeats 400000 in
theorem signed_any (neg : Bool) (n : Int) (h0 : 0 ≤ n) (h1 : n ≤ 18446744073709551615) (w : World) :
    Calls Try.prog 24 #[.bool neg, .int .u64 n] w fun e w' => e = .returned (.tuple #[.int .i64 (toldV (sided neg n)), .int .i64 (toldE (sided neg n))]) ∧ w = w' := by
  cases neg
  · by_cases h : n ≤ 9223372036854775807
    · have hf : Fits (sided false n) := (sided_fit h0).2 (by simpa using h)
      rw [toldV_fit hf, toldE_fit hf, show sided false n = n from rfl]
      clear hf
      go_enter Try.func24, Try.ntmps24
      go_wp2
      go_ret2
      exact ⟨rfl, rfl⟩
    · have hf : ¬ Fits (sided false n) := fun k => h (by simpa using (sided_fit h0).1 k)
      rw [toldV_over hf, toldE_over hf]
      clear hf
      go_enter Try.func24, Try.ntmps24
      go_wp2
      go_ret2
      exact ⟨rfl, rfl⟩
  · by_cases h : n ≤ 9223372036854775808
    · have hf : Fits (sided true n) := (sided_fit h0).2 (by simpa using h)
      rw [toldV_fit hf, toldE_fit hf, show sided true n = -n from rfl]
      clear hf
      go_enter Try.func24, Try.ntmps24
      go_wp2
      go_ret2
      exact ⟨ret_two (wrap_side h0 h) rfl, rfl⟩
    · have hf : ¬ Fits (sided true n) := fun k => h (by simpa using (sided_fit h0).1 k)
      rw [toldV_over hf, toldE_over hf]
      clear hf
      go_enter Try.func24, Try.ntmps24
      go_wp2
      go_ret2
      exact ⟨rfl, rfl⟩

theorem mul64_any (x y : Int) (hx : 0 ≤ x ∧ x ≤ 18446744073709551615) (hy : 0 ≤ y ∧ y ≤ 18446744073709551615) (w : World) :
    Calls Try.prog 22 #[.int .u64 x, .int .u64 y] w fun e w' => e = .returned (.tuple #[.int .u64 (x * y / 18446744073709551616), .int .u64 (x * y % 18446744073709551616)]) ∧ w = w' := by
  obtain ⟨x, rfl⟩ := Int.eq_ofNat_of_zero_le hx.1
  obtain ⟨y, rfl⟩ := Int.eq_ofNat_of_zero_le hy.1
  refine (Try.bits_Mul64 x y (by omega) (by omega) w).mono fun e w' ⟨he, hw⟩ => ⟨?_, hw.symm⟩
  rw [he]
  simp

set_option maxHeartbeats 400000 in
theorem mul_any (a b : Int) (ha : Fits a) (hb : Fits b) (w : World) :
    Calls Try.prog 11 #[.int .i64 a, .int .i64 b] w fun e w' => e = .returned (.tuple #[.int .i64 (toldV (a * b)), .int .i64 (toldE (a * b))]) ∧ w = w' := by
  have hn := mag_mul_nonneg ha hb
  obtain ⟨a0, a1⟩ := mag_bd ha
  obtain ⟨b0, b1⟩ := mag_bd hb
  have csa := size_any a ha
  have csb := size_any b hb
  have cm := mul64_any (mag a) (mag b) ⟨a0, by omega⟩ ⟨b0, by omega⟩
  by_cases hh : mag a * mag b / 18446744073709551616 = 0
  · have hl := mul_low hh
    have cs := signed_any (decide (a < 0) != decide (b < 0)) (mag a * mag b) hn (by omega)
    rw [← mag_mul] at cs
    rw [hh, hl] at cm
    have Ca := Lib.hid csa; have Cb := Lib.hid csb; have Cm := Lib.hid cm; have Cs := Lib.hid cs
    clear csa csb cm cs hl hh hn a0 a1 b0 b1 ha hb
    go_enter Try.func11, Try.ntmps11
    go_wp2_with fail
    refine (Ca.out _).mono ?_; rintro e w' ⟨rfl, rfl⟩
    go_wp2_with fail
    refine (Cb.out _).mono ?_; rintro e w' ⟨rfl, rfl⟩
    go_wp2_with fail
    refine (Cm.out _).mono ?_; rintro e w' ⟨rfl, rfl⟩
    go_wp2_with fail
    refine (Cs.out _).mono ?_; rintro e w' ⟨rfl, rfl⟩
    go_wp2_with fail
    go_ret2
    exact ⟨rfl, rfl⟩
  · have hf := mul_over hh hn
    rw [toldV_over hf, toldE_over hf]
    have Ca := Lib.hid csa; have Cb := Lib.hid csb; have Cm := Lib.hid cm
    have hb1 : (mag a * mag b / 18446744073709551616 == 0) = false := by simpa using hh
    clear csa csb cm hf hn a0 a1 b0 b1 ha hb
    go_enter Try.func11, Try.ntmps11
    go_wp2_with fail
    refine (Ca.out _).mono ?_; rintro e w' ⟨rfl, rfl⟩
    go_wp2_with fail
    refine (Cb.out _).mono ?_; rintro e w' ⟨rfl, rfl⟩
    go_wp2_with fail
    refine (Cm.out _).mono ?_; rintro e w' ⟨rfl, rfl⟩
    go_wp2_with fail
    go_ret2
    exact ⟨rfl, rfl⟩

end Go.Proofs.Ytncankjgmchckaa
