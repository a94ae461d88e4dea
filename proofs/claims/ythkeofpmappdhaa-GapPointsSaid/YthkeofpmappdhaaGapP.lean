/- Package gap: Right, Has, New, Within, Width, Mid, Shift and Grow, walked. -/
import Derived.Test.YthkeofpmappdhaaGapR
import Derived.Test.YthkeofpmappdhaaSafeA
namespace Go.Proofs.Ythkeofpmappdhaa
open Go.RowKit

set_option maxRecDepth 100000 in
set_option maxHeartbeats 400000 in
theorem gRight_any (a b : Int) (w : World) :
    Calls Try.prog 14 #[.agg #[.int .i64 a, .int .i64 b]] w fun e w' => e = .returned (.bool (decide (a ≤ b))) ∧ Below w.heap.size w w' := by
  go_enter Try.func14, Try.ntmps14
  go_wp2_with fail
  go_ret
  exact ⟨rfl, grew1 _ _⟩

set_option maxRecDepth 100000 in
set_option maxHeartbeats 400000 in
theorem gHas_any (a b x : Int) (w : World) :
    Calls Try.prog 17 #[.agg #[.int .i64 a, .int .i64 b], .int .i64 x] w fun e w' => e = .returned (.bool (decide (a ≤ x ∧ x ≤ b))) ∧ Below w.heap.size w w' := by
  by_cases h1 : a ≤ x
  · have e1 : decide (a ≤ x) = true := decide_eq_true h1
    have HE : Hid (decide (x ≤ b) = decide (a ≤ x ∧ x ≤ b)) := Lib.hid (decide_eq_decide.2 ⟨fun h => ⟨h1, h⟩, fun h => h.2⟩)
    rw [← HE.out]
    clear h1
    go_enter Try.func17, Try.ntmps17
    go_wp2_with fail
    go_ret
    exact ⟨rfl, grew1 _ _⟩
  · have e1 : decide (a ≤ x) = false := decide_eq_false h1
    have HE : Hid (false = decide (a ≤ x ∧ x ≤ b)) := Lib.hid (decide_eq_false fun h => h1 h.1).symm
    rw [← HE.out]
    clear h1
    go_enter Try.func17, Try.ntmps17
    go_wp2_with fail
    go_ret
    exact ⟨rfl, grew1 _ _⟩

set_option maxRecDepth 100000 in
set_option maxHeartbeats 400000 in
theorem gNew_any (a b : Int) (w : World) :
    Calls Try.prog 8 #[.int .i64 a, .int .i64 b] w fun e w' => e = .returned (.tuple #[.agg #[.int .i64 (if a ≤ b then a else 0), .int .i64 (if a ≤ b then b else 0)], .bool (decide (a ≤ b))]) ∧ Below w.heap.size w w' := by
  have CR := Lib.hid (gRight_any a b)
  have hR := (At2.new w (.int .i64 0) (.int .i64 0) 23).alloc (.cells #[.int .i64 a, .int .i64 b] 23)
  have hG := At2.new (w.alloc (.cells #[.int .i64 0, .int .i64 0] 23)) (.int .i64 a) (.int .i64 b) 23
  rw [World.size_alloc] at hG
  have B0 := grew2 w (.cells #[.int .i64 0, .int .i64 0] 23) (.cells #[.int .i64 a, .int .i64 b] 23)
  by_cases hr : a ≤ b
  · have e1 : decide (a ≤ b) = true := decide_eq_true hr
    rw [if_pos hr, if_pos hr, e1]
    clear hr
    go_enter Try.func8, Try.ntmps8
    go_wp2_with fail
    refine (CR.out _).mono ?_; rintro e w1 ⟨rfl, h1⟩
    replace hR := hR.below h1
    replace hG := hG.below h1
    have HB1 := Lib.hid (ext_step B0 h1)
    obtain ⟨r0, r1, r2, r3⟩ := id hR
    obtain ⟨g0, g1, -, -⟩ := id hG
    go_wp2_with fail
    exact bodyPost_ret (v := .tuple #[.agg #[.int .i64 a, .int .i64 b], .bool true]) (by simp [results, Try.results8, go_sem, r0, r1]) rfl ⟨rfl, ext_put (ext_put HB1.out (Nat.le_refl _) _) (Nat.le_refl _) _⟩
  · have e1 : decide (a ≤ b) = false := decide_eq_false hr
    rw [if_neg hr, if_neg hr, e1]
    clear hr
    go_enter Try.func8, Try.ntmps8
    go_wp2_with fail
    refine (CR.out _).mono ?_; rintro e w1 ⟨rfl, h1⟩
    replace hR := hR.below h1
    have HB1 := Lib.hid (ext_step B0 h1)
    obtain ⟨r0, r1, r2, r3⟩ := id hR
    go_wp2_with fail
    exact bodyPost_ret (v := .tuple #[.agg #[.int .i64 0, .int .i64 0], .bool false]) (by simp [results, Try.results8, go_sem, r0, r1]) rfl ⟨rfl, ext_put (ext_put HB1.out (Nat.le_refl _) _) (Nat.le_refl _) _⟩

set_option maxRecDepth 100000 in
set_option maxHeartbeats 400000 in
theorem gWithin_any (a b c d : Int) (w : World) :
    Calls Try.prog 18 #[.agg #[.int .i64 a, .int .i64 b], .agg #[.int .i64 c, .int .i64 d]] w fun e w' => e = .returned (.bool (decide (a ≤ b ∧ c ≤ a ∧ b ≤ d))) ∧ Below w.heap.size w w' := by
  have CR := Lib.hid (gRight_any a b)
  have CA := Lib.hid (gHas_any c d a)
  have CB := Lib.hid (gHas_any c d b)
  have hA := (At2.new w (.int .i64 a) (.int .i64 b) 23).alloc (.cells #[.int .i64 c, .int .i64 d] 23)
  have hO := At2.new (w.alloc (.cells #[.int .i64 a, .int .i64 b] 23)) (.int .i64 c) (.int .i64 d) 23
  rw [World.size_alloc] at hO
  have B0 := grew2 w (.cells #[.int .i64 a, .int .i64 b] 23) (.cells #[.int .i64 c, .int .i64 d] 23)
  by_cases hr : a ≤ b
  · have e1 : decide (a ≤ b) = true := decide_eq_true hr
    rw [e1] at CR
    by_cases hi : c ≤ a ∧ a ≤ d
    · have e2 : decide (c ≤ a ∧ a ≤ d) = true := decide_eq_true hi
      rw [e2] at CA
      have HE : decide (a ≤ b ∧ c ≤ a ∧ b ≤ d) = decide (c ≤ b ∧ b ≤ d) := decide_eq_decide.2 ⟨fun h => ⟨by omega, h.2.2⟩, fun h => ⟨hr, hi.1, h.2⟩⟩
      rw [HE]
      generalize decide (c ≤ b ∧ b ≤ d) = ib at *
      clear hr hi e1 e2 HE
      go_enter Try.func18, Try.ntmps18
      go_wp2_with fail
      refine (CR.out _).mono ?_; rintro e w1 ⟨rfl, h1⟩
      replace hA := hA.below h1
      replace hO := hO.below h1
      replace B0 := ext_step B0 h1
      obtain ⟨a0, a1, -, -⟩ := id hA
      obtain ⟨o0, o1, -, -⟩ := id hO
      go_wp2_with fail
      refine (CA.out _).mono ?_; rintro e w2 ⟨rfl, h2⟩
      clear a0 a1 o0 o1
      replace hA := hA.below h2
      replace hO := hO.below h2
      replace B0 := ext_step B0 h2
      obtain ⟨a0, a1, -, -⟩ := id hA
      obtain ⟨o0, o1, -, -⟩ := id hO
      go_wp2_with fail
      refine (CB.out _).mono ?_; rintro e w3 ⟨rfl, h3⟩
      replace B0 := ext_step B0 h3
      clear a0 a1 o0 o1
      go_wp2_with fail
      go_ret
      exact ⟨rfl, B0⟩
    · have e2 : decide (c ≤ a ∧ a ≤ d) = false := decide_eq_false hi
      rw [e2] at CA
      have HE : decide (a ≤ b ∧ c ≤ a ∧ b ≤ d) = false := decide_eq_false (by omega)
      rw [HE]
      clear hr hi e1 e2 HE
      go_enter Try.func18, Try.ntmps18
      go_wp2_with fail
      refine (CR.out _).mono ?_; rintro e w1 ⟨rfl, h1⟩
      replace hA := hA.below h1
      replace hO := hO.below h1
      replace B0 := ext_step B0 h1
      obtain ⟨a0, a1, -, -⟩ := id hA
      obtain ⟨o0, o1, -, -⟩ := id hO
      go_wp2_with fail
      refine (CA.out _).mono ?_; rintro e w2 ⟨rfl, h2⟩
      replace B0 := ext_step B0 h2
      clear a0 a1 o0 o1
      go_wp2_with fail
      go_ret
      exact ⟨rfl, B0⟩
  · have e1 : decide (a ≤ b) = false := decide_eq_false hr
    rw [e1] at CR
    have HE : decide (a ≤ b ∧ c ≤ a ∧ b ≤ d) = false := decide_eq_false (by omega)
    rw [HE]
    clear hr e1 HE
    go_enter Try.func18, Try.ntmps18
    go_wp2_with fail
    refine (CR.out _).mono ?_; rintro e w1 ⟨rfl, h1⟩
    replace B0 := ext_step B0 h1
    go_wp2_with fail
    go_ret
    exact ⟨rfl, B0⟩

theorem width_out {a b : Int} (ha : Fits a) (hb : Fits b) (h : a ≤ b) : IntKind.u64.wrap (IntKind.u64.wrap b - IntKind.u64.wrap a) = b - a := by
  unfold Fits at *
  simp [IntKind.wrap, IntKind.signed, IntKind.bits]
  omega

set_option maxRecDepth 100000 in
set_option maxHeartbeats 400000 in
theorem gWidth_any (a b : Int) (w : World) (ha : Fits a) (hb : Fits b) :
    Calls Try.prog 19 #[.agg #[.int .i64 a, .int .i64 b]] w fun e w' => e = .returned (.int .u64 (if a ≤ b then b - a else 0)) ∧ Below w.heap.size w w' := by
  have CR := Lib.hid (gRight_any a b)
  have hA := At2.new w (.int .i64 a) (.int .i64 b) 23
  have B0 := grew1 w (.cells #[.int .i64 a, .int .i64 b] 23)
  by_cases hr : a ≤ b
  · have e1 : decide (a ≤ b) = true := decide_eq_true hr
    have HW := Lib.hid (width_out ha hb hr)
    rw [if_pos hr]
    rw [e1] at CR
    clear hr ha hb e1
    go_enter Try.func19, Try.ntmps19
    go_wp2_with fail
    refine (CR.out _).mono ?_; rintro e w1 ⟨rfl, h1⟩
    replace B0 := ext_step B0 h1
    obtain ⟨a0, a1, -, -⟩ := hA.below h1
    go_wp2_with fail
    go_ret
    exact ⟨ret_one HW.out, B0⟩
  · have e1 : decide (a ≤ b) = false := decide_eq_false hr
    rw [if_neg hr]
    rw [e1] at CR
    clear hr ha hb e1
    go_enter Try.func19, Try.ntmps19
    go_wp2_with fail
    refine (CR.out _).mono ?_; rintro e w1 ⟨rfl, h1⟩
    replace B0 := ext_step B0 h1
    go_wp2_with fail
    go_ret
    exact ⟨rfl, B0⟩
end Go.Proofs.Ythkeofpmappdhaa
