/- The walk of 'WideSwaps': for all numbers it answers true. -/
import Derived.Test.YtedojpblfmkjeaaDoorAlive2
namespace Go.Proofs.YtedojpblfmkjeaaDoor
open Go.RowKit

theorem sum3_any (x y z : Int) (hx : Fits x) (hy : Fits y) (hz : Fits z) (w : World) : Calls Tryd.prog 23 #[.slice (some ⟨w.heap.size, 0, none⟩) 3 3] (w.alloc (.cells #[.int .i64 x, .int .i64 y, .int .i64 z] 2)) fun e w' => e = .returned (.agg #[.int .i64 ((x + y + z) / 18446744073709551616), .int .u64 ((x + y + z) % 18446744073709551616)]) ∧ Below (w.alloc (.cells #[.int .i64 x, .int .i64 y, .int .i64 z] 2)).heap.size (w.alloc (.cells #[.int .i64 x, .int .i64 y, .int .i64 z] 2)) w' := by
  have h := sumW_any (.slice (some ⟨w.heap.size, 0, none⟩) 3 3) [x, y, z] (w.alloc (.cells #[.int .i64 x, .int .i64 y, .int .i64 z] 2)) (by rw [World.size_alloc]; exact Lst.new (k := .i64) (zs := [x, y, z]) w _ _ rfl) (by simp [hx, hy, hz]) (by simp)
  rw [show [x, y, z].sum = x + y + z by simp [Int.add_assoc]] at h
  exact h
theorem sum2_any (x y : Int) (hx : Fits x) (hy : Fits y) (w : World) (g : Nat) (hg : g = w.heap.size) : Calls Tryd.prog 23 #[.slice (some ⟨g, 0, none⟩) 2 2] (w.alloc (.cells #[.int .i64 x, .int .i64 y] 2)) fun e w' => e = .returned (.agg #[.int .i64 ((x + y) / 18446744073709551616), .int .u64 ((x + y) % 18446744073709551616)]) ∧ Below (w.alloc (.cells #[.int .i64 x, .int .i64 y] 2)).heap.size (w.alloc (.cells #[.int .i64 x, .int .i64 y] 2)) w' := by
  subst hg
  have h := sumW_any (.slice (some ⟨w.heap.size, 0, none⟩) 2 2) [x, y] (w.alloc (.cells #[.int .i64 x, .int .i64 y] 2)) (by rw [World.size_alloc]; exact Lst.new (k := .i64) (zs := [x, y]) w _ _ rfl) (by simp [hx, hy]) (by simp)
  rw [show [x, y].sum = x + y by simp] at h
  exact h

set_option maxRecDepth 100000 in
set_option maxHeartbeats 4000000 in
theorem swaps_walk (a b x y z : Int) (ha : Two a) (hb : Two b) (hx : Fits x) (hy : Fits y) (hz : Fits z) (w : World) (hp : Pows w) :
    Calls Tryd.prog 7 #[.agg #[.int .i64 ((a) / 18446744073709551616), .int .u64 ((a) % 18446744073709551616)], .agg #[.int .i64 ((b) / 18446744073709551616), .int .u64 ((b) % 18446744073709551616)], .int .i64 x, .int .i64 y, .int .i64 z] w fun e w' => e = .returned (.bool true) ∧ Below w.heap.size w w' := by
  have C0 := Lib.hid alive2_any
  have ca := addW_any a b ha hb
  have cb := addW_any b a hb ha
  rw [Int.add_comm b a] at cb
  have cyx := timesW_any y x hy hx
  rw [Int.mul_comm y x] at cyx
  have cu2 := sum3_any z x y hz hx hy
  rw [show z + x + y = x + y + z by omega] at cu2
  have cp := addW_any (x * y) (x * z) (prod_two hx hy) (prod_two hx hz)
  rw [← Int.mul_add] at cp
  have CXY := Lib.hid (timesW_any x y hx hy)
  have CXZ := Lib.hid (timesW_any x z hx hz)
  have CYX := Lib.hid cyx
  have CU1 := Lib.hid (sum3_any x y z hx hy hz)
  have CU2 := Lib.hid cu2
  have CU3 := Lib.hid (sum2_any y z hy hz)
  have CL := Lib.hid (longW_any (y + z))
  generalize hSE : twoV (a + b) = S at *
  generalize hEE : twoE (a + b) = E at *
  have HSE := Lib.hid hSE
  have HEE := Lib.hid hEE
  clear hSE hEE
  have CA := Lib.hid ca
  have CB := Lib.hid cb
  clear ca cb cyx cu2
  have hA := (AtP.new w (a / 18446744073709551616) (a % 18446744073709551616) 24).alloc (.cells #[.int .i64 (b / 18446744073709551616), .int .u64 (b % 18446744073709551616)] 24)
  have hB := AtP.new (w.alloc (.cells #[.int .i64 (a / 18446744073709551616), .int .u64 (a % 18446744073709551616)] 24)) (b / 18446744073709551616) (b % 18446744073709551616) 24
  rw [World.size_alloc] at hB
  have B0 := up2 w (.cells #[.int .i64 (a / 18446744073709551616), .int .u64 (a % 18446744073709551616)] 24) (.cells #[.int .i64 (b / 18446744073709551616), .int .u64 (b % 18446744073709551616)] 24)
  go_enter Tryd.func7, Tryd.ntmps7
  go_wp2_with fail
  refine (C0.out _ (hp.below B0)).mono ?_; rintro e w1 ⟨rfl, h1⟩
  have B1 : Below w.heap.size w w1 := ext_step B0 h1
  replace hA := hA.below h1
  replace hB := hB.below h1
  obtain ⟨hA0, hA1, -, -⟩ := id hA
  obtain ⟨hB0, hB1, -, -⟩ := id hB
  go_wp2_with fail
  refine (CA.out _).mono ?_; rintro e w2 ⟨rfl, h2⟩
  have B2 : Below w.heap.size w w2 := ext_step B1 h2
  replace hA := hA.below h2
  replace hB := hB.below h2
  clear hA0 hA1 hB0 hB1
  replace hA := hA.alloc (.cells #[.int .i64 (S / 18446744073709551616), .int .u64 (S % 18446744073709551616)] 24)
  replace hB := hB.alloc (.cells #[.int .i64 (S / 18446744073709551616), .int .u64 (S % 18446744073709551616)] 24)
  have XB2 := ext_alloc B2 (.cells #[.int .i64 (S / 18446744073709551616), .int .u64 (S % 18446744073709551616)] 24)
  have hS := AtP.new w2 (S / 18446744073709551616) (S % 18446744073709551616) 24
  obtain ⟨hA0, hA1, -, -⟩ := id hA
  obtain ⟨hB0, hB1, -, -⟩ := id hB
  go_wp2_with fail
  refine (CB.out _).mono ?_; rintro e w3 ⟨rfl, h3⟩
  have B3 : Below w.heap.size w w3 := ext_step XB2 h3
  replace hA := hA.below h3
  replace hB := hB.below h3
  replace hS := hS.below h3
  clear hA0 hA1 hB0 hB1
  replace hA := hA.alloc (.cells #[.int .i64 (S / 18446744073709551616), .int .u64 (S % 18446744073709551616)] 24)
  replace hB := hB.alloc (.cells #[.int .i64 (S / 18446744073709551616), .int .u64 (S % 18446744073709551616)] 24)
  replace hS := hS.alloc (.cells #[.int .i64 (S / 18446744073709551616), .int .u64 (S % 18446744073709551616)] 24)
  have XB3 := ext_alloc B3 (.cells #[.int .i64 (S / 18446744073709551616), .int .u64 (S % 18446744073709551616)] 24)
  have hT := AtP.new w3 (S / 18446744073709551616) (S % 18446744073709551616) 24
  obtain ⟨hS0, hS1, -, -⟩ := id hS
  obtain ⟨hT0, hT1, -, -⟩ := id hT
  go_wp2_with fail
  refine (CXY.out _).mono ?_; rintro e w4 ⟨rfl, h4⟩
  have B4 : Below w.heap.size w w4 := ext_step XB3 h4
  replace hA := hA.below h4
  replace hB := hB.below h4
  replace hS := hS.below h4
  replace hT := hT.below h4
  clear hS0 hS1 hT0 hT1
  go_wp2_with fail
  refine (CYX.out _).mono ?_; rintro e w5 ⟨rfl, h5⟩
  have B5 : Below w.heap.size w w5 := ext_step B4 h5
  replace hA := hA.below h5
  replace hB := hB.below h5
  replace hS := hS.below h5
  replace hT := hT.below h5
  go_wp2_with fail
  replace hA := hA.alloc (.cells #[.int .i64 x, .int .i64 y, .int .i64 z] 2)
  replace hB := hB.alloc (.cells #[.int .i64 x, .int .i64 y, .int .i64 z] 2)
  replace hS := hS.alloc (.cells #[.int .i64 x, .int .i64 y, .int .i64 z] 2)
  have XB5 := ext_alloc B5 (.cells #[.int .i64 x, .int .i64 y, .int .i64 z] 2)
  refine (CU1.out _).mono ?_; rintro e w6 ⟨rfl, h6⟩
  have B6 : Below w.heap.size w w6 := ext_step XB5 h6
  replace hA := hA.below h6
  replace hB := hB.below h6
  replace hS := hS.below h6
  go_wp2_with fail
  replace hA := hA.alloc (.cells #[.int .i64 z, .int .i64 x, .int .i64 y] 2)
  replace hB := hB.alloc (.cells #[.int .i64 z, .int .i64 x, .int .i64 y] 2)
  replace hS := hS.alloc (.cells #[.int .i64 z, .int .i64 x, .int .i64 y] 2)
  have XB6 := ext_alloc B6 (.cells #[.int .i64 z, .int .i64 x, .int .i64 y] 2)
  refine (CU2.out _).mono ?_; rintro e w7 ⟨rfl, h7⟩
  have B7 : Below w.heap.size w w7 := ext_step XB6 h7
  replace hA := hA.below h7
  replace hB := hB.below h7
  replace hS := hS.below h7
  by_cases hD : Two (a + b)
  · have e1 := twoV_fit hD
    have e2 := twoE_fit hD
    have cd := subW_any (a + b) b (by rw [two_bd] at hD ⊢; exact hD) hb
    rw [Int.add_sub_cancel, twoV_fit ha, twoE_fit ha] at cd
    have CD := Lib.hid cd
    rw [HSE.out] at e1; rw [HEE.out] at e2
    subst e1; subst e2
    clear cd hD HSE HEE
    obtain ⟨hS0, hS1, -, -⟩ := id hS
    obtain ⟨hB0, hB1, -, -⟩ := id hB
    obtain ⟨hA0, hA1, -, -⟩ := id hA
    go_wp2_with fail
    refine (CD.out _).mono ?_; rintro e w8 ⟨rfl, h8⟩
    have B8 : Below w.heap.size w w8 := ext_step B7 h8
    replace hA := hA.below h8
    replace hB := hB.below h8
    replace hS := hS.below h8
    clear hS0 hS1 hB0 hB1 hA0 hA1
    replace hA := hA.alloc (.cells #[.int .i64 (a / 18446744073709551616), .int .u64 (a % 18446744073709551616)] 24)
    replace hB := hB.alloc (.cells #[.int .i64 (a / 18446744073709551616), .int .u64 (a % 18446744073709551616)] 24)
    have XB8 := ext_alloc B8 (.cells #[.int .i64 (a / 18446744073709551616), .int .u64 (a % 18446744073709551616)] 24)
    have hX := AtP.new w8 (a / 18446744073709551616) (a % 18446744073709551616) 24
    obtain ⟨hA0, hA1, -, -⟩ := id hA
    obtain ⟨hX0, hX1, -, -⟩ := id hX
    go_wp2_with fail
    clear hA0 hA1 hX0 hX1
    replace hA := hA.alloc (.cells #[.int .i64 y, .int .i64 z] 2)
    have XXB8 := ext_alloc XB8 (.cells #[.int .i64 y, .int .i64 z] 2)
    refine (CU3.out _ _ (by simp)).mono ?_; rintro e w9 ⟨rfl, h9⟩
    have B9 : Below w.heap.size w w9 := ext_step XXB8 h9
    replace hA := hA.below h9
    go_wp2_with fail
    refine (CL.out _).mono ?_; rintro e w10 ⟨rfl, h10⟩
    have B10 : Below w.heap.size w w10 := ext_step B9 h10
    replace hA := hA.below h10
    by_cases hF : Fits (y + z)
    · have e3 : decide (Fits (y + z)) = true := decide_eq_true hF
      rw [toldV_fit hF, e3]
      have CV := Lib.hid (timesW_any x (y + z) hx hF)
      rw [twoV_fit (prod_two hx hF), twoE_fit (prod_two hx hF)] at cp
      have CP := Lib.hid cp
      clear cp
      clear hF e3
      go_wp2_with fail
      refine (CXY.out _).mono ?_; rintro e w11 ⟨rfl, h11⟩
      have B11 : Below w.heap.size w w11 := ext_step B10 h11
      replace hA := hA.below h11
      go_wp2_with fail
      refine (CXZ.out _).mono ?_; rintro e w12 ⟨rfl, h12⟩
      have B12 : Below w.heap.size w w12 := ext_step B11 h12
      replace hA := hA.below h12
      go_wp2_with fail
      refine (CP.out _).mono ?_; rintro e w13 ⟨rfl, h13⟩
      have B13 : Below w.heap.size w w13 := ext_step B12 h13
      replace hA := hA.below h13
      replace hA := hA.alloc (.cells #[.int .i64 (x * (y + z) / 18446744073709551616), .int .u64 (x * (y + z) % 18446744073709551616)] 24)
      have XB13 := ext_alloc B13 (.cells #[.int .i64 (x * (y + z) / 18446744073709551616), .int .u64 (x * (y + z) % 18446744073709551616)] 24)
      have hP := AtP.new w13 (x * (y + z) / 18446744073709551616) (x * (y + z) % 18446744073709551616) 24
      have hBL := XB13
      go_upto_region 15 with fail
      go_region_held3 (fun w' => w'.cell? ⟨w13.heap.size, 0, none⟩ = some (.int .i64 (x * (y + z) / 18446744073709551616)) ∧ w'.cell? ⟨w13.heap.size, 1, none⟩ = some (.int .u64 (x * (y + z) % 18446744073709551616))) (exact ⟨hP.c0, hP.c1⟩)
        (first | (go_at_call 22; refine (CV.out _).mono ?_; rintro e wV ⟨rfl, hq⟩; replace hP := hP.below ⟨hq.os, hq.tape, hq.output, hq.size, hq.block⟩; have hBL := ext_step hBL ⟨hq.os, hq.tape, hq.output, hq.size, hq.block⟩))
      all_goals
        go_wp2_with fail
        go_ret
        exact ⟨rfl, hBL⟩
    · have e3 : decide (Fits (y + z)) = false := decide_eq_false hF
      rw [e3]
      clear e3
      go_wp2_with fail
      go_ret
      exact ⟨rfl, B10⟩
  · have e2 := twoE_over hD
    rw [HEE.out] at e2
    subst e2
    clear hD HEE
    go_wp2_with fail
    replace hA := hA.alloc (.cells #[.int .i64 y, .int .i64 z] 2)
    have XB7 := ext_alloc B7 (.cells #[.int .i64 y, .int .i64 z] 2)
    refine (CU3.out _ _ (by simp)).mono ?_; rintro e w8 ⟨rfl, h8⟩
    have B8 : Below w.heap.size w w8 := ext_step XB7 h8
    replace hA := hA.below h8
    go_wp2_with fail
    refine (CL.out _).mono ?_; rintro e w9 ⟨rfl, h9⟩
    have B9 : Below w.heap.size w w9 := ext_step B8 h9
    replace hA := hA.below h9
    by_cases hF : Fits (y + z)
    · have e3 : decide (Fits (y + z)) = true := decide_eq_true hF
      rw [toldV_fit hF, e3]
      have CV := Lib.hid (timesW_any x (y + z) hx hF)
      rw [twoV_fit (prod_two hx hF), twoE_fit (prod_two hx hF)] at cp
      have CP := Lib.hid cp
      clear cp
      clear hF e3
      go_wp2_with fail
      refine (CXY.out _).mono ?_; rintro e w10 ⟨rfl, h10⟩
      have B10 : Below w.heap.size w w10 := ext_step B9 h10
      replace hA := hA.below h10
      go_wp2_with fail
      refine (CXZ.out _).mono ?_; rintro e w11 ⟨rfl, h11⟩
      have B11 : Below w.heap.size w w11 := ext_step B10 h11
      replace hA := hA.below h11
      go_wp2_with fail
      refine (CP.out _).mono ?_; rintro e w12 ⟨rfl, h12⟩
      have B12 : Below w.heap.size w w12 := ext_step B11 h12
      replace hA := hA.below h12
      replace hA := hA.alloc (.cells #[.int .i64 (x * (y + z) / 18446744073709551616), .int .u64 (x * (y + z) % 18446744073709551616)] 24)
      have XB12 := ext_alloc B12 (.cells #[.int .i64 (x * (y + z) / 18446744073709551616), .int .u64 (x * (y + z) % 18446744073709551616)] 24)
      have hP := AtP.new w12 (x * (y + z) / 18446744073709551616) (x * (y + z) % 18446744073709551616) 24
      have hBL := XB12
      go_upto_region 15 with fail
      go_region_held3 (fun w' => w'.cell? ⟨w12.heap.size, 0, none⟩ = some (.int .i64 (x * (y + z) / 18446744073709551616)) ∧ w'.cell? ⟨w12.heap.size, 1, none⟩ = some (.int .u64 (x * (y + z) % 18446744073709551616))) (exact ⟨hP.c0, hP.c1⟩)
        (first | (go_at_call 22; refine (CV.out _).mono ?_; rintro e wV ⟨rfl, hq⟩; replace hP := hP.below ⟨hq.os, hq.tape, hq.output, hq.size, hq.block⟩; have hBL := ext_step hBL ⟨hq.os, hq.tape, hq.output, hq.size, hq.block⟩))
      all_goals
        go_wp2_with fail
        go_ret
        exact ⟨rfl, hBL⟩
    · have e3 : decide (Fits (y + z)) = false := decide_eq_false hF
      rw [e3]
      clear e3
      go_wp2_with fail
      go_ret
      exact ⟨rfl, B9⟩
end Go.Proofs.YtedojpblfmkjeaaDoor
