/- The walk of 'WideAnswers': for all numbers of two words it answers true. -/
import Derived.Test.YtedojpblfmkjeaaDoorAlive2
import Derived.Test.YtedojpblfmkjeaaDoorSame
import Derived.Test.YtedojpblfmkjeaaDoorCmp
import Derived.Test.YtedojpblfmkjeaaDoorRefE
namespace Go.Proofs.YtedojpblfmkjeaaDoor
open Go.RowKit

theorem ord_cmp (x y : Int) : cmpI x y = ordI x y := by
  unfold cmpI ordI
  by_cases h : y < x
  · rw [if_pos h, if_neg (by omega), if_pos h]
  · by_cases k : x < y
    · rw [if_neg h, if_pos k, if_pos k]
    · rw [if_neg h, if_neg k, if_neg k, if_neg h]
theorem two_mag2 {x y : Int} (h : Two x) (k : Two y) : mag (x + y) < 65536 ^ 10 ∧ mag (x + -y) < 65536 ^ 10 := by
  rw [two_bd] at h k
  have e : (65536 : Int) ^ 10 = 1461501637330902918203684832716283019655932542976 := by decide
  rw [e]; unfold mag
  constructor <;> split <;> omega
theorem two_magN {y : Int} (k : Two y) : mag (-y) < 65536 ^ 9 := by
  have h := two_mag k
  have e : mag (-y) = mag y := by unfold mag; split <;> split <;> omega
  rw [e]; exact h

set_option maxRecDepth 100000 in
set_option maxHeartbeats 4000000 in
theorem answers_walk (a b : Int) (ha : Two a) (hb : Two b) (w : World) (hp : Pows w) :
    Calls Tryd.prog 3 #[.agg #[.int .i64 ((a) / 18446744073709551616), .int .u64 ((a) % 18446744073709551616)], .agg #[.int .i64 ((b) / 18446744073709551616), .int .u64 ((b) % 18446744073709551616)]] w fun e w' => e = .returned (.bool true) ∧ Below w.heap.size w w' := by
  have C0 := Lib.hid alive2_any
  have CA := Lib.hid (addW_any a b ha hb)
  have cs := subW_any a b ha hb
  rw [Int.sub_eq_add_neg] at cs
  have CS := Lib.hid cs
  have CL := Lib.hid (longW_any a)
  have CN := Lib.hid (numW_any a ha)
  have CM := Lib.hid (numW_any b hb)
  have CC := Lib.hid (cmpW_any a b)
  have CR := Lib.hid fun (r : Value) (W : World) (h : NumV W r a) => long_any r a W 9 h (two_mag ha)
  have cx := fun (r u : Value) (W : World) (h : NumV W r a) (k : NumV W u b) => cmp_any r u a b W 9 h k (two_mag ha) (two_mag hb) (by omega)
  rw [ord_cmp] at cx
  have CX := Lib.hid cx
  have MA := Lib.hid (two_mag ha)
  have MB := Lib.hid (two_mag hb)
  have MN := Lib.hid (two_magN hb)
  have MS := Lib.hid (two_mag2 ha hb).1
  have MD := Lib.hid (two_mag2 ha hb).2
  clear cs cx ha hb
  have hA := (AtP.new w (a / 18446744073709551616) (a % 18446744073709551616) 24).alloc (.cells #[.int .i64 (b / 18446744073709551616), .int .u64 (b % 18446744073709551616)] 24)
  have hB := AtP.new (w.alloc (.cells #[.int .i64 (a / 18446744073709551616), .int .u64 (a % 18446744073709551616)] 24)) (b / 18446744073709551616) (b % 18446744073709551616) 24
  rw [World.size_alloc] at hB
  have B0 := up2 w (.cells #[.int .i64 (a / 18446744073709551616), .int .u64 (a % 18446744073709551616)] 24) (.cells #[.int .i64 (b / 18446744073709551616), .int .u64 (b % 18446744073709551616)] 24)
  go_enter Tryd.func3, Tryd.ntmps3
  go_wp2_with fail
  refine (C0.out _ (hp.below B0)).mono ?_; rintro e w1 ⟨rfl, h1⟩
  have B1 : Below w.heap.size w w1 := ext_step B0 h1
  have hA := hA.below h1
  have hB := hB.below h1
  obtain ⟨hA0, hA1, -, -⟩ := id hA
  obtain ⟨hB0, hB1, -, -⟩ := id hB
  go_wp2_with fail
  refine (CA.out _).mono ?_; rintro e w2 ⟨rfl, h2⟩
  have B2 : Below w.heap.size w w2 := ext_step B1 h2
  have hA := hA.below h2
  have hB := hB.below h2
  clear hA0 hA1 hB0 hB1
  have hA := hA.alloc (.cells #[.int .i64 (twoV (a + b) / 18446744073709551616), .int .u64 (twoV (a + b) % 18446744073709551616)] 24)
  have hB := hB.alloc (.cells #[.int .i64 (twoV (a + b) / 18446744073709551616), .int .u64 (twoV (a + b) % 18446744073709551616)] 24)
  have XB2 := ext_alloc B2 (.cells #[.int .i64 (twoV (a + b) / 18446744073709551616), .int .u64 (twoV (a + b) % 18446744073709551616)] 24)
  have hX := AtP.new w2 (twoV (a + b) / 18446744073709551616) (twoV (a + b) % 18446744073709551616) 24
  obtain ⟨hA0, hA1, -, -⟩ := id hA
  obtain ⟨hB0, hB1, -, -⟩ := id hB
  go_wp2_with fail
  refine (CS.out _).mono ?_; rintro e w3 ⟨rfl, h3⟩
  have B3 : Below w.heap.size w w3 := ext_step XB2 h3
  have hA := hA.below h3
  have hB := hB.below h3
  have hX := hX.below h3
  clear hA0 hA1 hB0 hB1
  have hA := hA.alloc (.cells #[.int .i64 (twoV (a + -b) / 18446744073709551616), .int .u64 (twoV (a + -b) % 18446744073709551616)] 24)
  have hB := hB.alloc (.cells #[.int .i64 (twoV (a + -b) / 18446744073709551616), .int .u64 (twoV (a + -b) % 18446744073709551616)] 24)
  have hX := hX.alloc (.cells #[.int .i64 (twoV (a + -b) / 18446744073709551616), .int .u64 (twoV (a + -b) % 18446744073709551616)] 24)
  have XB3 := ext_alloc B3 (.cells #[.int .i64 (twoV (a + -b) / 18446744073709551616), .int .u64 (twoV (a + -b) % 18446744073709551616)] 24)
  have hY := AtP.new w3 (twoV (a + -b) / 18446744073709551616) (twoV (a + -b) % 18446744073709551616) 24
  obtain ⟨hA0, hA1, -, -⟩ := id hA
  obtain ⟨hB0, hB1, -, -⟩ := id hB
  go_wp2_with fail
  refine (CL.out _).mono ?_; rintro e w4 ⟨rfl, h4⟩
  have B4 : Below w.heap.size w w4 := ext_step XB3 h4
  have hA := hA.below h4
  have hB := hB.below h4
  have hX := hX.below h4
  have hY := hY.below h4
  clear hA0 hA1 hB0 hB1
  obtain ⟨hA0, hA1, -, -⟩ := id hA
  obtain ⟨hB0, hB1, -, -⟩ := id hB
  go_wp2_with fail
  refine (CN.out _).mono ?_; rintro e w5 ⟨r1, rfl, hr1, h5⟩
  have B5 : Below w.heap.size w w5 := ext_step B4 h5
  have hA := hA.below h5
  have hB := hB.below h5
  have hX := hX.below h5
  have hY := hY.below h5
  go_wp2_with fail
  refine (CR.out _ _ hr1).mono ?_; rintro e w6 ⟨lv, rfl, hlv, h6⟩
  have B6 : Below w.heap.size w w6 := ext_step B5 h6
  have hA := hA.below h6
  have hB := hB.below h6
  have hX := hX.below h6
  have hY := hY.below h6
  clear hA0 hA1 hB0 hB1
  by_cases hF : Fits a
  · have e1 : Hid (toldV a = a) := Lib.hid (toldV_fit hF)
    have e2 : lv = a := hlv hF
    have e3 : decide (Fits a) = true := decide_eq_true hF
    rw [e1.out, e3, e2]
    clear e1 e2 e3 hlv hF
    have hBL := B6
    go_upto_region 9 with fail
    go_region_held3 (fun w' => w'.cell? ⟨w.heap.size, 0, none⟩ = some (.int .i64 (a / 18446744073709551616)) ∧ w'.cell? ⟨w.heap.size, 1, none⟩ = some (.int .u64 (a % 18446744073709551616)) ∧ w'.cell? ⟨w.heap.size + 1, 0, none⟩ = some (.int .i64 (b / 18446744073709551616)) ∧ w'.cell? ⟨w.heap.size + 1, 1, none⟩ = some (.int .u64 (b % 18446744073709551616)) ∧ w'.cell? ⟨w2.heap.size, 0, none⟩ = some (.int .i64 (twoV (a + b) / 18446744073709551616)) ∧ w'.cell? ⟨w2.heap.size, 1, none⟩ = some (.int .u64 (twoV (a + b) % 18446744073709551616)) ∧ w'.cell? ⟨w3.heap.size, 0, none⟩ = some (.int .i64 (twoV (a + -b) / 18446744073709551616)) ∧ w'.cell? ⟨w3.heap.size, 1, none⟩ = some (.int .u64 (twoV (a + -b) % 18446744073709551616)))
      (exact ⟨hA.c0, hA.c1, hB.c0, hB.c1, hX.c0, hX.c1, hY.c0, hY.c1⟩)
      (first
        | (go_at_call_of 13 a; refine (CN.out _).mono ?_; rintro e w8 ⟨rA, rfl, hrA, hq⟩; have hA := hA.below ⟨hq.os, hq.tape, hq.output, hq.size, hq.block⟩; have hB := hB.below ⟨hq.os, hq.tape, hq.output, hq.size, hq.block⟩; have hX := hX.below ⟨hq.os, hq.tape, hq.output, hq.size, hq.block⟩; have hY := hY.below ⟨hq.os, hq.tape, hq.output, hq.size, hq.block⟩; have hBL := ext_step hBL ⟨hq.os, hq.tape, hq.output, hq.size, hq.block⟩)
        | (go_at_call_of 13 b; refine (CM.out _).mono ?_; rintro e w9 ⟨rB, rfl, hrB, hq⟩; have hA := hA.below ⟨hq.os, hq.tape, hq.output, hq.size, hq.block⟩; have hB := hB.below ⟨hq.os, hq.tape, hq.output, hq.size, hq.block⟩; have hX := hX.below ⟨hq.os, hq.tape, hq.output, hq.size, hq.block⟩; have hY := hY.below ⟨hq.os, hq.tape, hq.output, hq.size, hq.block⟩; have hrA := hrA.below ⟨hq.os, hq.tape, hq.output, hq.size, hq.block⟩; have hBL := ext_step hBL ⟨hq.os, hq.tape, hq.output, hq.size, hq.block⟩)
        | (go_at_call_of 15 rB; refine (addN_any rA rB a b _ 9 (by exact hrA) (by exact hrB) MA.out MB.out (by omega)).mono ?_; rintro e w10 ⟨s1, rfl, hs1, hq⟩; have hA := hA.below ⟨hq.os, hq.tape, hq.output, hq.size, hq.block⟩; have hB := hB.below ⟨hq.os, hq.tape, hq.output, hq.size, hq.block⟩; have hX := hX.below ⟨hq.os, hq.tape, hq.output, hq.size, hq.block⟩; have hY := hY.below ⟨hq.os, hq.tape, hq.output, hq.size, hq.block⟩; have hBL := ext_step hBL ⟨hq.os, hq.tape, hq.output, hq.size, hq.block⟩)
        | (go_at_call_of 14 s1; refine (same_any (a + b) s1 _ 10 (by exact hs1) MS.out (by omega) (by omega)).mono ?_; rintro e w11 ⟨rfl, hq⟩; have hA := hA.below ⟨hq.os, hq.tape, hq.output, hq.size, hq.block⟩; have hB := hB.below ⟨hq.os, hq.tape, hq.output, hq.size, hq.block⟩; have hX := hX.below ⟨hq.os, hq.tape, hq.output, hq.size, hq.block⟩; have hY := hY.below ⟨hq.os, hq.tape, hq.output, hq.size, hq.block⟩; have hBL := ext_step hBL ⟨hq.os, hq.tape, hq.output, hq.size, hq.block⟩)
        | (go_at_call 16; refine (neg_any rB b _ 9 (by exact hrB) MB.out (by omega)).mono ?_; rintro e w12 ⟨rN, rfl, hrN, hq⟩; have hA := hA.below ⟨hq.os, hq.tape, hq.output, hq.size, hq.block⟩; have hB := hB.below ⟨hq.os, hq.tape, hq.output, hq.size, hq.block⟩; have hX := hX.below ⟨hq.os, hq.tape, hq.output, hq.size, hq.block⟩; have hY := hY.below ⟨hq.os, hq.tape, hq.output, hq.size, hq.block⟩; have hrA := hrA.below ⟨hq.os, hq.tape, hq.output, hq.size, hq.block⟩; have hBL := ext_step hBL ⟨hq.os, hq.tape, hq.output, hq.size, hq.block⟩)
        | (go_at_call_of 15 rN; refine (addN_any rA rN a (-b) _ 9 (by exact hrA) (by exact hrN) MA.out MN.out (by omega)).mono ?_; rintro e w13 ⟨s2, rfl, hs2, hq⟩; have hA := hA.below ⟨hq.os, hq.tape, hq.output, hq.size, hq.block⟩; have hB := hB.below ⟨hq.os, hq.tape, hq.output, hq.size, hq.block⟩; have hX := hX.below ⟨hq.os, hq.tape, hq.output, hq.size, hq.block⟩; have hY := hY.below ⟨hq.os, hq.tape, hq.output, hq.size, hq.block⟩; have hBL := ext_step hBL ⟨hq.os, hq.tape, hq.output, hq.size, hq.block⟩)
        | (go_at_call_of 14 s2; refine (same_any (a + -b) s2 _ 10 (by exact hs2) MD.out (by omega) (by omega)).mono ?_; rintro e w14 ⟨rfl, hq⟩; have hA := hA.below ⟨hq.os, hq.tape, hq.output, hq.size, hq.block⟩; have hB := hB.below ⟨hq.os, hq.tape, hq.output, hq.size, hq.block⟩; have hX := hX.below ⟨hq.os, hq.tape, hq.output, hq.size, hq.block⟩; have hY := hY.below ⟨hq.os, hq.tape, hq.output, hq.size, hq.block⟩; have hBL := ext_step hBL ⟨hq.os, hq.tape, hq.output, hq.size, hq.block⟩)
        | (go_at_call 17; refine (CC.out _).mono ?_; rintro e w15 ⟨rfl, hq⟩; have hA := hA.below ⟨hq.os, hq.tape, hq.output, hq.size, hq.block⟩; have hB := hB.below ⟨hq.os, hq.tape, hq.output, hq.size, hq.block⟩; have hX := hX.below ⟨hq.os, hq.tape, hq.output, hq.size, hq.block⟩; have hY := hY.below ⟨hq.os, hq.tape, hq.output, hq.size, hq.block⟩; have hBL := ext_step hBL ⟨hq.os, hq.tape, hq.output, hq.size, hq.block⟩)
        | (go_at_call 18; refine (CX.out rA rB _ (by exact hrA) (by exact hrB)).mono ?_; rintro e w16 ⟨rfl, hq⟩; have hA := hA.below ⟨hq.os, hq.tape, hq.output, hq.size, hq.block⟩; have hB := hB.below ⟨hq.os, hq.tape, hq.output, hq.size, hq.block⟩; have hX := hX.below ⟨hq.os, hq.tape, hq.output, hq.size, hq.block⟩; have hY := hY.below ⟨hq.os, hq.tape, hq.output, hq.size, hq.block⟩; have hBL := ext_step hBL ⟨hq.os, hq.tape, hq.output, hq.size, hq.block⟩))
    all_goals
      go_wp2_with fail
      go_ret
      exact ⟨rfl, hBL⟩
  · have e1 : Hid (toldV a = 0) := Lib.hid (toldV_over hF)
    have e3 : decide (Fits a) = false := decide_eq_false hF
    rw [e1.out, e3]
    clear e1 e3 hlv hF
    have hBL := B6
    go_upto_region 9 with fail
    go_region_held3 (fun w' => w'.cell? ⟨w.heap.size, 0, none⟩ = some (.int .i64 (a / 18446744073709551616)) ∧ w'.cell? ⟨w.heap.size, 1, none⟩ = some (.int .u64 (a % 18446744073709551616)) ∧ w'.cell? ⟨w.heap.size + 1, 0, none⟩ = some (.int .i64 (b / 18446744073709551616)) ∧ w'.cell? ⟨w.heap.size + 1, 1, none⟩ = some (.int .u64 (b % 18446744073709551616)) ∧ w'.cell? ⟨w2.heap.size, 0, none⟩ = some (.int .i64 (twoV (a + b) / 18446744073709551616)) ∧ w'.cell? ⟨w2.heap.size, 1, none⟩ = some (.int .u64 (twoV (a + b) % 18446744073709551616)) ∧ w'.cell? ⟨w3.heap.size, 0, none⟩ = some (.int .i64 (twoV (a + -b) / 18446744073709551616)) ∧ w'.cell? ⟨w3.heap.size, 1, none⟩ = some (.int .u64 (twoV (a + -b) % 18446744073709551616)))
      (exact ⟨hA.c0, hA.c1, hB.c0, hB.c1, hX.c0, hX.c1, hY.c0, hY.c1⟩)
      (first
        | (go_at_call_of 13 a; refine (CN.out _).mono ?_; rintro e w8 ⟨rA, rfl, hrA, hq⟩; have hA := hA.below ⟨hq.os, hq.tape, hq.output, hq.size, hq.block⟩; have hB := hB.below ⟨hq.os, hq.tape, hq.output, hq.size, hq.block⟩; have hX := hX.below ⟨hq.os, hq.tape, hq.output, hq.size, hq.block⟩; have hY := hY.below ⟨hq.os, hq.tape, hq.output, hq.size, hq.block⟩; have hBL := ext_step hBL ⟨hq.os, hq.tape, hq.output, hq.size, hq.block⟩)
        | (go_at_call_of 13 b; refine (CM.out _).mono ?_; rintro e w9 ⟨rB, rfl, hrB, hq⟩; have hA := hA.below ⟨hq.os, hq.tape, hq.output, hq.size, hq.block⟩; have hB := hB.below ⟨hq.os, hq.tape, hq.output, hq.size, hq.block⟩; have hX := hX.below ⟨hq.os, hq.tape, hq.output, hq.size, hq.block⟩; have hY := hY.below ⟨hq.os, hq.tape, hq.output, hq.size, hq.block⟩; have hrA := hrA.below ⟨hq.os, hq.tape, hq.output, hq.size, hq.block⟩; have hBL := ext_step hBL ⟨hq.os, hq.tape, hq.output, hq.size, hq.block⟩)
        | (go_at_call_of 15 rB; refine (addN_any rA rB a b _ 9 (by exact hrA) (by exact hrB) MA.out MB.out (by omega)).mono ?_; rintro e w10 ⟨s1, rfl, hs1, hq⟩; have hA := hA.below ⟨hq.os, hq.tape, hq.output, hq.size, hq.block⟩; have hB := hB.below ⟨hq.os, hq.tape, hq.output, hq.size, hq.block⟩; have hX := hX.below ⟨hq.os, hq.tape, hq.output, hq.size, hq.block⟩; have hY := hY.below ⟨hq.os, hq.tape, hq.output, hq.size, hq.block⟩; have hBL := ext_step hBL ⟨hq.os, hq.tape, hq.output, hq.size, hq.block⟩)
        | (go_at_call_of 14 s1; refine (same_any (a + b) s1 _ 10 (by exact hs1) MS.out (by omega) (by omega)).mono ?_; rintro e w11 ⟨rfl, hq⟩; have hA := hA.below ⟨hq.os, hq.tape, hq.output, hq.size, hq.block⟩; have hB := hB.below ⟨hq.os, hq.tape, hq.output, hq.size, hq.block⟩; have hX := hX.below ⟨hq.os, hq.tape, hq.output, hq.size, hq.block⟩; have hY := hY.below ⟨hq.os, hq.tape, hq.output, hq.size, hq.block⟩; have hBL := ext_step hBL ⟨hq.os, hq.tape, hq.output, hq.size, hq.block⟩)
        | (go_at_call 16; refine (neg_any rB b _ 9 (by exact hrB) MB.out (by omega)).mono ?_; rintro e w12 ⟨rN, rfl, hrN, hq⟩; have hA := hA.below ⟨hq.os, hq.tape, hq.output, hq.size, hq.block⟩; have hB := hB.below ⟨hq.os, hq.tape, hq.output, hq.size, hq.block⟩; have hX := hX.below ⟨hq.os, hq.tape, hq.output, hq.size, hq.block⟩; have hY := hY.below ⟨hq.os, hq.tape, hq.output, hq.size, hq.block⟩; have hrA := hrA.below ⟨hq.os, hq.tape, hq.output, hq.size, hq.block⟩; have hBL := ext_step hBL ⟨hq.os, hq.tape, hq.output, hq.size, hq.block⟩)
        | (go_at_call_of 15 rN; refine (addN_any rA rN a (-b) _ 9 (by exact hrA) (by exact hrN) MA.out MN.out (by omega)).mono ?_; rintro e w13 ⟨s2, rfl, hs2, hq⟩; have hA := hA.below ⟨hq.os, hq.tape, hq.output, hq.size, hq.block⟩; have hB := hB.below ⟨hq.os, hq.tape, hq.output, hq.size, hq.block⟩; have hX := hX.below ⟨hq.os, hq.tape, hq.output, hq.size, hq.block⟩; have hY := hY.below ⟨hq.os, hq.tape, hq.output, hq.size, hq.block⟩; have hBL := ext_step hBL ⟨hq.os, hq.tape, hq.output, hq.size, hq.block⟩)
        | (go_at_call_of 14 s2; refine (same_any (a + -b) s2 _ 10 (by exact hs2) MD.out (by omega) (by omega)).mono ?_; rintro e w14 ⟨rfl, hq⟩; have hA := hA.below ⟨hq.os, hq.tape, hq.output, hq.size, hq.block⟩; have hB := hB.below ⟨hq.os, hq.tape, hq.output, hq.size, hq.block⟩; have hX := hX.below ⟨hq.os, hq.tape, hq.output, hq.size, hq.block⟩; have hY := hY.below ⟨hq.os, hq.tape, hq.output, hq.size, hq.block⟩; have hBL := ext_step hBL ⟨hq.os, hq.tape, hq.output, hq.size, hq.block⟩)
        | (go_at_call 17; refine (CC.out _).mono ?_; rintro e w15 ⟨rfl, hq⟩; have hA := hA.below ⟨hq.os, hq.tape, hq.output, hq.size, hq.block⟩; have hB := hB.below ⟨hq.os, hq.tape, hq.output, hq.size, hq.block⟩; have hX := hX.below ⟨hq.os, hq.tape, hq.output, hq.size, hq.block⟩; have hY := hY.below ⟨hq.os, hq.tape, hq.output, hq.size, hq.block⟩; have hBL := ext_step hBL ⟨hq.os, hq.tape, hq.output, hq.size, hq.block⟩)
        | (go_at_call 18; refine (CX.out rA rB _ (by exact hrA) (by exact hrB)).mono ?_; rintro e w16 ⟨rfl, hq⟩; have hA := hA.below ⟨hq.os, hq.tape, hq.output, hq.size, hq.block⟩; have hB := hB.below ⟨hq.os, hq.tape, hq.output, hq.size, hq.block⟩; have hX := hX.below ⟨hq.os, hq.tape, hq.output, hq.size, hq.block⟩; have hY := hY.below ⟨hq.os, hq.tape, hq.output, hq.size, hq.block⟩; have hBL := ext_step hBL ⟨hq.os, hq.tape, hq.output, hq.size, hq.block⟩))
    all_goals
      go_wp2_with fail
      go_ret
      exact ⟨rfl, hBL⟩
end Go.Proofs.YtedojpblfmkjeaaDoor
