/- Package gap: nonEmpty, Shift and Grow, walked. -/
import Derived.Test.YthkeofpmappdhaaGapP
namespace Go.Proofs.Ythkeofpmappdhaa
open Go.RowKit

/-- A gap if it is one, else the error's number. -/
def neI (a b : Int) : Int × Int × Int := if b < a then (0, 0, 13) else (a, b, 0)

set_option maxRecDepth 100000 in
set_option maxHeartbeats 400000 in
theorem gNonEmpty_any (a b : Int) (w : World) :
    Calls Try.prog 27 #[.agg #[.int .i64 a, .int .i64 b]] w fun e w' => GapE (neI a b) e ∧ Below w.heap.size w w' := by
  have CR := Lib.hid (gRight_any a b)
  have hA := (At2.new w (.int .i64 a) (.int .i64 b) 23).alloc (.cells #[.int .i64 0, .int .i64 0] 23)
  have hR := At2.new (w.alloc (.cells #[.int .i64 a, .int .i64 b] 23)) (.int .i64 0) (.int .i64 0) 23
  rw [World.size_alloc] at hR
  have B0 := grew2 w (.cells #[.int .i64 a, .int .i64 b] 23) (.cells #[.int .i64 0, .int .i64 0] 23)
  by_cases hr : b < a
  · have e1 : decide (a ≤ b) = false := decide_eq_false (by omega)
    have HS : Hid (neI a b = (0, 0, 13)) := Lib.hid (if_pos hr)
    rw [e1] at CR
    clear hr e1
    go_enter Try.func27, Try.ntmps27
    go_wp2_with fail
    refine (CR.out _).mono ?_; rintro e w1 ⟨rfl, h1⟩
    replace hR := hR.below h1
    have HB1 := Lib.hid (ext_step B0 h1)
    obtain ⟨r0, r1, r2, r3⟩ := id hR
    go_wp2_with fail
    exact bodyPost_ret (v := .tuple #[.agg #[.int .i64 (0), .int .i64 (0)], .int .i64 13]) (by simp [results, Try.results27, go_sem, r0, r1]) rfl ⟨by rw [HS.out]; rfl, ext_put (ext_put HB1.out (Nat.le_succ _) _) (Nat.le_succ _) _⟩
  · have e1 : decide (a ≤ b) = true := decide_eq_true (by omega)
    have HS : Hid (neI a b = (a, b, 0)) := Lib.hid (if_neg hr)
    rw [e1] at CR
    clear hr e1
    go_enter Try.func27, Try.ntmps27
    go_wp2_with fail
    refine (CR.out _).mono ?_; rintro e w1 ⟨rfl, h1⟩
    replace hA := hA.below h1
    replace hR := hR.below h1
    have HB1 := Lib.hid (ext_step B0 h1)
    obtain ⟨r0, r1, r2, r3⟩ := id hR
    obtain ⟨a0, a1, -, -⟩ := id hA
    go_wp2_with fail
    exact bodyPost_ret (v := .tuple #[.agg #[.int .i64 a, .int .i64 b], .int .i64 0]) (by simp [results, Try.results27, go_sem, r0, r1]) rfl ⟨by rw [HS.out]; rfl, ext_put (ext_put HB1.out (Nat.le_succ _) _) (Nat.le_succ _) _⟩

set_option maxRecDepth 100000 in
set_option maxHeartbeats 2000000 in
theorem gShift_any (a b y : Int) (w : World) (ha : Fits a) (hb : Fits b) (hy : Fits y) :
    Calls Try.prog 9 #[.agg #[.int .i64 a, .int .i64 b], .int .i64 y] w fun e w' => GapE (shiftI a b y) e ∧ Below w.heap.size w w' := by
  have CR := Lib.hid (gRight_any a b)
  have C1 := Lib.hid fun W => add_any a y ha hy W
  have C2 := Lib.hid fun W => add_any b y hb hy W
  have hA := (At2.new w (.int .i64 a) (.int .i64 b) 23).alloc (.cells #[.int .i64 0, .int .i64 0] 23)
  have hR := At2.new (w.alloc (.cells #[.int .i64 a, .int .i64 b] 23)) (.int .i64 0) (.int .i64 0) 23
  rw [World.size_alloc] at hR
  have B0 := grew2 w (.cells #[.int .i64 a, .int .i64 b] 23) (.cells #[.int .i64 0, .int .i64 0] 23)
  by_cases hr : b < a
  · have e1 : decide (a ≤ b) = false := decide_eq_false (by omega)
    have HS : Hid (shiftI a b y = (0, 0, 10)) := Lib.hid (if_pos hr)
    clear hr
    go_enter Try.func9, Try.ntmps9
    go_wp2_with fail
    refine (CR.out _).mono ?_; rintro e w1 ⟨rfl, h1⟩
    replace hA := hA.below h1
    replace hR := hR.below h1
    have HB1 := Lib.hid (ext_step B0 h1)
    obtain ⟨r0, r1, r2, r3⟩ := id hR
    go_wp2_with fail
    exact bodyPost_ret (v := .tuple #[.agg #[.int .i64 (0), .int .i64 (0)], .int .i64 10]) (by simp [results, Try.results9, go_sem, r0, r1]) rfl ⟨by rw [HS.out]; rfl, ext_put (ext_put HB1.out (Nat.le_succ _) _) (Nat.le_succ _) _⟩
  have e1 : decide (a ≤ b) = true := decide_eq_true (by omega)
  by_cases hf : Fits (a + y) ∧ Fits (b + y)
  · have HS : Hid (shiftI a b y = (a + y, b + y, 0)) := Lib.hid (by unfold shiftI; rw [if_neg hr, if_pos hf])
    have v1 := toldV_fit hf.1
    have v2 := toldV_fit hf.2
    have f1 := toldE_fit hf.1
    have f2 := toldE_fit hf.2
    clear hr hf
    go_enter Try.func9, Try.ntmps9
    go_wp2_with fail
    refine (CR.out _).mono ?_; rintro e w1 ⟨rfl, h1⟩
    replace hA := hA.below h1
    replace hR := hR.below h1
    have HB1 := Lib.hid (ext_step B0 h1)
    obtain ⟨a0, a1, -, -⟩ := id hA
    go_wp2_with fail
    refine (C1.out _).mono ?_; rintro e w2 ⟨rfl, rfl⟩
    go_wp2_with fail
    refine (C2.out _).mono ?_; rintro e w3 ⟨rfl, rfl⟩
    clear a0 a1
    obtain ⟨r0, r1, r2, r3⟩ := id hR
    go_wp2_with fail
    exact bodyPost_ret (v := .tuple #[.agg #[.int .i64 (a + y), .int .i64 (b + y)], .int .i64 0]) (by simp [results, Try.results9, go_sem, r0, r1]) rfl ⟨by rw [HS.out]; rfl, ext_put (ext_put HB1.out (Nat.le_succ _) _) (Nat.le_succ _) _⟩
  · have HS : Hid (shiftI a b y = (0, 0, 12)) := Lib.hid (by unfold shiftI; rw [if_neg hr, if_neg hf])
    rcases toldE_both hf with f1 | ⟨f1, f2⟩
    · clear hr hf
      go_enter Try.func9, Try.ntmps9
      go_wp2_with fail
      refine (CR.out _).mono ?_; rintro e w1 ⟨rfl, h1⟩
      replace hA := hA.below h1
      replace hR := hR.below h1
      have HB1 := Lib.hid (ext_step B0 h1)
      obtain ⟨a0, a1, -, -⟩ := id hA
      go_wp2_with fail
      refine (C1.out _).mono ?_; rintro e w2 ⟨rfl, rfl⟩
      go_wp2_with fail
      refine (C2.out _).mono ?_; rintro e w3 ⟨rfl, rfl⟩
      clear a0 a1
      obtain ⟨r0, r1, r2, r3⟩ := id hR
      go_wp2_with fail
      exact bodyPost_ret (v := .tuple #[.agg #[.int .i64 (0), .int .i64 (0)], .int .i64 12]) (by simp [results, Try.results9, go_sem, r0, r1]) rfl ⟨by rw [HS.out]; rfl, ext_put (ext_put HB1.out (Nat.le_succ _) _) (Nat.le_succ _) _⟩
    · clear hr hf
      go_enter Try.func9, Try.ntmps9
      go_wp2_with fail
      refine (CR.out _).mono ?_; rintro e w1 ⟨rfl, h1⟩
      replace hA := hA.below h1
      replace hR := hR.below h1
      have HB1 := Lib.hid (ext_step B0 h1)
      obtain ⟨a0, a1, -, -⟩ := id hA
      go_wp2_with fail
      refine (C1.out _).mono ?_; rintro e w2 ⟨rfl, rfl⟩
      go_wp2_with fail
      refine (C2.out _).mono ?_; rintro e w3 ⟨rfl, rfl⟩
      clear a0 a1
      obtain ⟨r0, r1, r2, r3⟩ := id hR
      go_wp2_with fail
      exact bodyPost_ret (v := .tuple #[.agg #[.int .i64 (0), .int .i64 (0)], .int .i64 12]) (by simp [results, Try.results9, go_sem, r0, r1]) rfl ⟨by rw [HS.out]; rfl, ext_put (ext_put HB1.out (Nat.le_succ _) _) (Nat.le_succ _) _⟩

set_option maxRecDepth 100000 in
set_option maxHeartbeats 2000000 in
theorem gGrow_any (a b l h : Int) (w : World) (ha : Fits a) (hb : Fits b) (hl : Fits l) (hh : Fits h) :
    Calls Try.prog 10 #[.agg #[.int .i64 a, .int .i64 b], .int .i64 l, .int .i64 h] w fun e w' => GapE (growI a b l h) e ∧ Below w.heap.size w w' := by
  have CR := Lib.hid (gRight_any a b)
  have C1 := Lib.hid fun W => sub_any a l ha hl W
  have C2 := Lib.hid fun W => add_any b h hb hh W
  have CE := Lib.hid (gNonEmpty_any (a - l) (b + h))
  have hA := (At2.new w (.int .i64 a) (.int .i64 b) 23).alloc (.cells #[.int .i64 0, .int .i64 0] 23)
  have hR := At2.new (w.alloc (.cells #[.int .i64 a, .int .i64 b] 23)) (.int .i64 0) (.int .i64 0) 23
  rw [World.size_alloc] at hR
  have B0 := grew2 w (.cells #[.int .i64 a, .int .i64 b] 23) (.cells #[.int .i64 0, .int .i64 0] 23)
  by_cases hr : b < a
  · have e1 : decide (a ≤ b) = false := decide_eq_false (by omega)
    have HS : Hid (growI a b l h = (0, 0, 10)) := Lib.hid (if_pos hr)
    clear hr
    go_enter Try.func10, Try.ntmps10
    go_wp2_with fail
    refine (CR.out _).mono ?_; rintro e w1 ⟨rfl, h1⟩
    replace hA := hA.below h1
    replace hR := hR.below h1
    have HB1 := Lib.hid (ext_step B0 h1)
    obtain ⟨r0, r1, r2, r3⟩ := id hR
    go_wp2_with fail
    exact bodyPost_ret (v := .tuple #[.agg #[.int .i64 (0), .int .i64 (0)], .int .i64 10]) (by simp [results, Try.results10, go_sem, r0, r1]) rfl ⟨by rw [HS.out]; rfl, ext_put (ext_put HB1.out (Nat.le_succ _) _) (Nat.le_succ _) _⟩
  have e1 : decide (a ≤ b) = true := decide_eq_true (by omega)
  by_cases hf : Fits (a - l) ∧ Fits (b + h)
  · have HS : Hid (growI a b l h = neI (a - l) (b + h)) := Lib.hid (by unfold growI neI; rw [if_neg hr, if_pos hf])
    have v1 := toldV_fit hf.1
    have v2 := toldV_fit hf.2
    have f1 := toldE_fit hf.1
    have f2 := toldE_fit hf.2
    clear hr hf
    unfold GapE at CE
    generalize neI (a - l) (b + h) = r at *
    obtain ⟨p, q, k⟩ := r
    dsimp only at CE
    go_enter Try.func10, Try.ntmps10
    go_wp2_with fail
    refine (CR.out _).mono ?_; rintro e w1 ⟨rfl, h1⟩
    replace hA := hA.below h1
    replace hR := hR.below h1
    have HB1 := Lib.hid (ext_step B0 h1)
    obtain ⟨a0, a1, -, -⟩ := id hA
    go_wp2_with fail
    refine (C1.out _).mono ?_; rintro e w2 ⟨rfl, rfl⟩
    go_wp2_with fail
    refine (C2.out _).mono ?_; rintro e w3 ⟨rfl, rfl⟩
    clear a0 a1
    go_wp2_with fail
    refine (CE.out _).mono ?_; rintro e w4 ⟨rfl, h4⟩
    replace hR := hR.below h4
    have HB2 := Lib.hid (ext_step HB1.out h4)
    obtain ⟨r0, r1, r2, r3⟩ := id hR
    go_wp2_with fail
    exact bodyPost_ret (v := .tuple #[.agg #[.int .i64 (p), .int .i64 (q)], .int .i64 k]) (by simp [results, Try.results10, go_sem, r0, r1]) rfl ⟨by rw [HS.out]; rfl, ext_put (ext_put HB2.out (Nat.le_succ _) _) (Nat.le_succ _) _⟩
  · have HS : Hid (growI a b l h = (0, 0, 12)) := Lib.hid (by unfold growI; rw [if_neg hr, if_neg hf])
    rcases toldE_both hf with f1 | ⟨f1, f2⟩
    · clear hr hf
      go_enter Try.func10, Try.ntmps10
      go_wp2_with fail
      refine (CR.out _).mono ?_; rintro e w1 ⟨rfl, h1⟩
      replace hA := hA.below h1
      replace hR := hR.below h1
      have HB1 := Lib.hid (ext_step B0 h1)
      obtain ⟨a0, a1, -, -⟩ := id hA
      go_wp2_with fail
      refine (C1.out _).mono ?_; rintro e w2 ⟨rfl, rfl⟩
      go_wp2_with fail
      refine (C2.out _).mono ?_; rintro e w3 ⟨rfl, rfl⟩
      clear a0 a1
      obtain ⟨r0, r1, r2, r3⟩ := id hR
      go_wp2_with fail
      exact bodyPost_ret (v := .tuple #[.agg #[.int .i64 (0), .int .i64 (0)], .int .i64 12]) (by simp [results, Try.results10, go_sem, r0, r1]) rfl ⟨by rw [HS.out]; rfl, ext_put (ext_put HB1.out (Nat.le_succ _) _) (Nat.le_succ _) _⟩
    · clear hr hf
      go_enter Try.func10, Try.ntmps10
      go_wp2_with fail
      refine (CR.out _).mono ?_; rintro e w1 ⟨rfl, h1⟩
      replace hA := hA.below h1
      replace hR := hR.below h1
      have HB1 := Lib.hid (ext_step B0 h1)
      obtain ⟨a0, a1, -, -⟩ := id hA
      go_wp2_with fail
      refine (C1.out _).mono ?_; rintro e w2 ⟨rfl, rfl⟩
      go_wp2_with fail
      refine (C2.out _).mono ?_; rintro e w3 ⟨rfl, rfl⟩
      clear a0 a1
      obtain ⟨r0, r1, r2, r3⟩ := id hR
      go_wp2_with fail
      exact bodyPost_ret (v := .tuple #[.agg #[.int .i64 (0), .int .i64 (0)], .int .i64 12]) (by simp [results, Try.results10, go_sem, r0, r1]) rfl ⟨by rw [HS.out]; rfl, ext_put (ext_put HB1.out (Nat.le_succ _) _) (Nat.le_succ _) _⟩

end Go.Proofs.Ythkeofpmappdhaa
