/- Package drift: ahead, tooFar, walked. -/
import Derived.Test.YtljgfallhnlebaaCmpW
import Derived.Test.YtljgfallhnlebaaAtW
import Derived.Test.YtljgfallhnlebaaDrfA
import Derived.Deep.RegionHeld3
import Derived.Deep.CutBlock
import Derived.Deep.DeepCutAuto
namespace Go.Proofs.Ytljgfallhnlebaa
open Go.RowKit

theorem undrewW {W w1 : World} (h : Below W.drew.heap.size W.drew w1) : Below W.heap.size W w1 := ⟨h.os, h.tape, h.output, h.size, h.block⟩

set_option maxRecDepth 100000 in
set_option maxHeartbeats 4000000 in
theorem dAhead_any (a b p : Int) (ha : Fits a) (hb : Fits b) (hp : Fits p) (h2 : Two (leadI (a, b) p)) (w : World) :
    Calls Try.prog 45 #[.agg #[.int .i64 a, .int .i64 b], .int .i64 p] w fun e w' => e = .returned (.agg #[.int .i64 ((leadI (a, b) p) / 18446744073709551616), .int .u64 ((leadI (a, b) p) % 18446744073709551616)]) ∧ Below w.heap.size w w' := by
  have HV : Hid (twoV (b * 1000000 - a * p) = leadI (a, b) p) := Lib.hid (twoV_fit (by exact h2))
  have C1 := Lib.hid (timesW_any b 1000000 hb (by decide))
  have C2 := Lib.hid (timesW_any a p ha hp)
  have C3 := Lib.hid (subW_any (b * 1000000) (a * p) (prod_two hb (by decide)) (prod_two ha hp))
  have A0 := (At2.new w (.int .i64 a) (.int .i64 b) 36).alloc (.cells #[.int .i64 0, .int .u64 0] 68)
  have R0 := AtP.new (w.alloc (.cells #[.int .i64 a, .int .i64 b] 36)) 0 0 68
  rw [World.size_alloc] at R0
  have B0 := grew2 w (.cells #[.int .i64 a, .int .i64 b] 36) (.cells #[.int .i64 0, .int .u64 0] 68)
  clear ha hb hp h2
  go_enter Try.func45, Try.ntmps45
  go_upto_region 1 with fail
  change Code.wp _ _ _ _ ((w.alloc (.cells #[.int .i64 a, .int .i64 b] 36)).alloc (.cells #[.int .i64 0, .int .u64 0] 68))
  generalize (w.alloc (.cells #[.int .i64 a, .int .i64 b] 36)).alloc (.cells #[.int .i64 0, .int .u64 0] 68) = w0 at *
  generalize b * 1000000 = u at *
  generalize a * p = v at *
  go_cut [5] (fun d wx => ∃ g, d = .pointer (some ⟨g, 0, none⟩) ∧ AtP wx g (leadI (a, b) p / 18446744073709551616) (leadI (a, b) p % 18446744073709551616) ∧ AtP wx (w.heap.size + 1) 0 0 ∧ Below w.heap.size w wx)
  case first =>
    go_region_held3 (fun w' => w'.cell? ⟨w.heap.size, 0, none⟩ = some (.int .i64 a) ∧ w'.cell? ⟨w.heap.size, 1, none⟩ = some (.int .i64 b))
      ((first | exact ⟨A0.c0, A0.c1⟩ | exact ⟨A1.c0, A1.c1⟩ | exact ⟨A2.c0, A2.c1⟩ | exact ⟨A3.c0, A3.c1⟩ | exact ⟨(A0.alloc _).c0, (A0.alloc _).c1⟩ | exact ⟨(A1.alloc _).c0, (A1.alloc _).c1⟩ | exact ⟨(A2.alloc _).c0, (A2.alloc _).c1⟩ | exact ⟨(A3.alloc _).c0, (A3.alloc _).c1⟩ | exact ⟨((A3.other (Nat.ne_of_lt A2.lt) 0 _).other (Nat.ne_of_lt A2.lt) 1 _).c0, ((A3.other (Nat.ne_of_lt A2.lt) 0 _).other (Nat.ne_of_lt A2.lt) 1 _).c1⟩ | exact ⟨((A3.other (Nat.ne_of_lt A1.lt) 0 _).other (Nat.ne_of_lt A1.lt) 1 _).c0, ((A3.other (Nat.ne_of_lt A1.lt) 0 _).other (Nat.ne_of_lt A1.lt) 1 _).c1⟩ | exact ⟨((A3.other (Nat.ne_of_lt A0.lt) 0 _).other (Nat.ne_of_lt A0.lt) 1 _).c0, ((A3.other (Nat.ne_of_lt A0.lt) 0 _).other (Nat.ne_of_lt A0.lt) 1 _).c1⟩))
      (first
        | (go_at_call_of 61 (1000000 : Int); refine (C1.out _).mono ?_; rintro e w1 ⟨rfl, h⟩; have D1 : AtP w1 w0.heap.size 0 0 := (AtP.new w0.drew 0 0 68).below h; have A1 := (A0.drew.alloc (.cells #[.int .i64 0, .int .u64 0] 68)).below h; have R1 := (R0.drew.alloc (.cells #[.int .i64 0, .int .u64 0] 68)).below h; have B1 := ext_step (ext_alloc B0.drew (.cells #[.int .i64 0, .int .u64 0] 68)) h)
        | (go_at_call_of 61 (1000000 : Int); refine (C1.out _).mono ?_; rintro e w1 ⟨rfl, h⟩; have A1 := A0.drew.below h; have R1 := R0.drew.below h; have B1 := ext_step B0.drew h)
        | (go_at_call 61; refine (C2.out _).mono ?_; rintro e w2 ⟨rfl, h⟩; have D2 := D1.below h; have A2 := A1.below h; have R2 := R1.below h; have B2 := ext_step B1 h)
        | (go_at_call 61; refine (C2.out _).mono ?_; rintro e w2 ⟨rfl, h⟩; have D2 := (AtP.new w1 0 0 68).below h; have A2 := (A1.alloc (.cells #[.int .i64 0, .int .u64 0] 68)).below h; have R2 := (R1.alloc (.cells #[.int .i64 0, .int .u64 0] 68)).below h; have B2 := ext_step (ext_alloc B1 (.cells #[.int .i64 0, .int .u64 0] 68)) h)
        | (go_at_call 61; refine (C2.out _).mono ?_; rintro e w2 ⟨rfl, h⟩; have A2 := A1.below h; have R2 := R1.below h; have B2 := ext_step B1 h)
        | (go_at_call 60; refine (C3.out _).mono ?_; rintro e w3 ⟨rfl, h⟩; have D3 := D2.below h; have A3 := A2.below h; have R3 := R2.below h; have B3 := ext_step B2 h; obtain ⟨p0, p1, p2, p3⟩ := id D3)
        | (go_at_call 60; refine (C3.out _).mono ?_; rintro e w3 ⟨rfl, h⟩; have D3 := (AtP.new w2 0 0 68).below h; have A3 := (A2.alloc (.cells #[.int .i64 0, .int .u64 0] 68)).below h; have R3 := (R2.alloc (.cells #[.int .i64 0, .int .u64 0] 68)).below h; have B3 := ext_step (ext_alloc B2 (.cells #[.int .i64 0, .int .u64 0] 68)) h; obtain ⟨p0, p1, p2, p3⟩ := id D3)
        | (go_at_call 60; refine (C3.out _).mono ?_; rintro e w3 ⟨rfl, h⟩; have A3 := A2.below h; have R3 := R2.below h; have B3 := ext_step B2 h))
    all_goals
      go_wp2_with fail
      go_meet
      rw [← HV.out]
      first
        | exact ⟨_, rfl, AtP.new w3 _ _ _, R3.alloc _, ext_alloc B3 _⟩
        | exact ⟨_, rfl, D3.set_ _ _, (R3.other (Nat.ne_of_lt R2.lt) 0 _).other (Nat.ne_of_lt R2.lt) 1 _, ext_put (ext_put B3 (Nat.le_of_lt A2.lt) _) (Nat.le_of_lt A2.lt) _⟩
        | exact ⟨_, rfl, D3.set_ _ _, (R3.other (Nat.ne_of_lt R1.lt) 0 _).other (Nat.ne_of_lt R1.lt) 1 _, ext_put (ext_put B3 (Nat.le_of_lt A1.lt) _) (Nat.le_of_lt A1.lt) _⟩
        | exact ⟨_, rfl, D3.set_ _ _, (R3.other (Nat.ne_of_lt R0.lt) 0 _).other (Nat.ne_of_lt R0.lt) 1 _, ext_put (ext_put B3 (Nat.le_of_lt A0.lt) _) (Nat.le_of_lt A0.lt) _⟩
  case rest =>
    obtain ⟨g, rfl, hT, hR, hB⟩ := hcut
    obtain ⟨t0, t1, -, -⟩ := id hT
    obtain ⟨r0, r1, q0, q1⟩ := id hR
    have hR' := hR.set_ (leadI (a, b) p / 18446744073709551616) (leadI (a, b) p % 18446744073709551616)
    have HB := Lib.hid (ext_put (ext_put hB (p := ⟨w.heap.size + 1, 0, none⟩) (Nat.le_succ _) (.int .i64 (leadI (a, b) p / 18446744073709551616))) (p := ⟨w.heap.size + 1, 1, none⟩) (Nat.le_succ _) (.int .u64 (leadI (a, b) p % 18446744073709551616)))
    obtain ⟨s0, s1, -, -⟩ := id hR'
    go_wp2_with fail
    exact bodyPost_ret (v := .agg #[.int .i64 ((leadI (a, b) p) / 18446744073709551616), .int .u64 ((leadI (a, b) p) % 18446744073709551616)]) (by simp [results, Try.results45, go_sem, s0, s1]) rfl ⟨rfl, HB.out⟩

theorem ordI_pos {x y : Int} : decide (0 < ordI x y) = decide (y < x) := by
  rw [decide_eq_decide]
  unfold ordI
  split <;> try split
  all_goals omega
theorem ordI_neg {x y : Int} : decide (ordI x y < 0) = decide (x < y) := by
  rw [decide_eq_decide]
  unfold ordI
  split <;> try split
  all_goals omega

set_option maxRecDepth 100000 in
set_option maxHeartbeats 1000000 in
theorem dFar_any (a b : Int) (ha : Two a) (hb : Two b) (h2 : Two (b - a)) (w : World) :
    Calls Try.prog 47 #[.agg #[.int .i64 ((a) / 18446744073709551616), .int .u64 ((a) % 18446744073709551616)], .agg #[.int .i64 ((b) / 18446744073709551616), .int .u64 ((b) % 18446744073709551616)]] w fun e w' => e = .returned (.bool (decide (1000000 < b - a))) ∧ Below w.heap.size w w' := by
  have C1 := Lib.hid (subW_any b a hb ha)
  have C2 : Hid (∀ W : World, Calls Try.prog 63 #[.int .i64 1000000] W fun e w' => e = .returned (.agg #[.int .i64 0, .int .u64 1000000]) ∧ Below W.heap.size W w') := Lib.hid (ofW_any 1000000 (by decide))
  have C3 : Hid (∀ W : World, Calls Try.prog 46 #[.agg #[.int .i64 ((b - a) / 18446744073709551616), .int .u64 ((b - a) % 18446744073709551616)], .agg #[.int .i64 0, .int .u64 1000000]] W fun e w' => e = .returned (.int .i64 (ordI (b - a) 1000000)) ∧ Below W.heap.size W w') := Lib.hid (cmpW_any (b - a) 1000000)
  have HO : Hid (decide (0 < ordI (b - a) 1000000) = decide (1000000 < b - a)) := Lib.hid ordI_pos
  rw [twoV_fit h2] at C1
  have A0 := (CellW.new w a 68).alloc (.cells #[.int .i64 (b / 18446744073709551616), .int .u64 (b % 18446744073709551616)] 68)
  have B0 := CellW.new (w.alloc (.cells #[.int .i64 (a / 18446744073709551616), .int .u64 (a % 18446744073709551616)] 68)) b 68
  rw [World.size_alloc] at B0
  have HW := Lib.hid (up2 w (.cells #[.int .i64 (a / 18446744073709551616), .int .u64 (a % 18446744073709551616)] 68) (.cells #[.int .i64 (b / 18446744073709551616), .int .u64 (b % 18446744073709551616)] 68))
  clear ha hb h2
  generalize decide (1000000 < b - a) = r at HO ⊢
  generalize ordI (b - a) 1000000 = o at *
  go_enter Try.func47, Try.ntmps47
  go_upto_region 1 with fail
  change Code.wp _ _ _ _ ((w.alloc (.cells #[.int .i64 (a / 18446744073709551616), .int .u64 (a % 18446744073709551616)] 68)).alloc (.cells #[.int .i64 (b / 18446744073709551616), .int .u64 (b % 18446744073709551616)] 68))
  generalize (w.alloc (.cells #[.int .i64 (a / 18446744073709551616), .int .u64 (a % 18446744073709551616)] 68)).alloc (.cells #[.int .i64 (b / 18446744073709551616), .int .u64 (b % 18446744073709551616)] 68) = W at *
  obtain ⟨a0, a1⟩ := id A0
  obtain ⟨b0, b1⟩ := id B0
  generalize b - a = x at *
  go_wp2_with fail
  refine (C1.out _).mono ?_; rintro e w1 ⟨rfl, h1⟩
  have HB := Lib.hid (HW.out.trans (h1.mono HW.out.size))
  clear a0 a1 b0 b1 A0 B0 h1 HW
  go_upto_region 2 with fail
  have T0 := AtP.new w1 (x / 18446744073709551616) (x % 18446744073709551616) 68
  have HB2 := Lib.hid (ext_alloc HB.out (.cells #[.int .i64 (x / 18446744073709551616), .int .u64 (x % 18446744073709551616)] 68))
  clear HB
  generalize w1.alloc (.cells #[.int .i64 (x / 18446744073709551616), .int .u64 (x % 18446744073709551616)] 68) = W2 at *
  go_region_held3 (fun w' => w'.cell? ⟨w1.heap.size, 0, none⟩ = some (.int .i64 (x / 18446744073709551616)) ∧ w'.cell? ⟨w1.heap.size, 1, none⟩ = some (.int .u64 (x % 18446744073709551616)))
    ((first | exact ⟨T0.c0, T0.c1⟩ | exact ⟨T1.c0, T1.c1⟩ | exact ⟨T2.c0, T2.c1⟩))
    (first
      | (go_at_call 63; refine (C2.out _).mono ?_; rintro e w2 ⟨rfl, h⟩; have T1 := T0.below (undrewW h); have B1 := ext_step HB2.out (undrewW h))
      | (go_at_call 46; refine (C3.out _).mono ?_; rintro e w3 ⟨rfl, h⟩; have T2 := T1.below h; have B2 := Lib.hid (ext_step B1 h)))
  all_goals
    go_wp2_with fail
    go_ret
    exact ⟨ret_bool HO.out, B2.out⟩
end Go.Proofs.Ytljgfallhnlebaa
