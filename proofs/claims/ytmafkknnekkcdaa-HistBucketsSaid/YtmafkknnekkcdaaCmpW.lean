/- What wide.Cmp answers: the order of the two numbers; its two library calls (cmp.Compare, cmp.Or) walked. -/
import Derived.Test.YtmafkknnekkcdaaCellW
namespace Go.Proofs.Ytmafkknnekkcdaa
open Go.RowKit

set_option maxRecDepth 100000 in
set_option maxHeartbeats 400000 in
theorem cmpL_any (a b : Int) (w : World) :
    Calls Try.prog 55 #[.int .i64 a, .int .i64 b] w fun e w' => e = .returned (.int .i64 (ordI a b)) ∧ w = w' := by
  have CN : Hid (∀ (x : Int) (W : World), Calls Try.prog 58 #[.int .i64 x] W fun e w' => e = .returned (.bool false) ∧ W = w') := Lib.hid fun x W => by
    go_enter Try.func58, Try.ntmps58
    go_wp2
    go_ret
    exact ⟨by simp, rfl⟩
  rcases Int.lt_trichotomy a b with h | h | h
  · rw [ordI_lt h]
    go_enter Try.func55, Try.ntmps55
    go_wp2_with fail
    refine (CN.out a _).mono ?_; rintro e w' ⟨rfl, rfl⟩
    go_wp2_with fail
    refine (CN.out b _).mono ?_; rintro e w' ⟨rfl, rfl⟩
    go_wp2_with fail
    go_ret
    exact ⟨rfl, rfl⟩
  · subst h
    rw [ordI_eq]
    go_enter Try.func55, Try.ntmps55
    go_wp2_with fail
    refine (CN.out a _).mono ?_; rintro e w' ⟨rfl, rfl⟩
    go_wp2_with fail
    refine (CN.out a _).mono ?_; rintro e w' ⟨rfl, rfl⟩
    go_wp2_with fail
    go_ret
    exact ⟨rfl, rfl⟩
  · rw [ordI_gt h]
    go_enter Try.func55, Try.ntmps55
    go_wp2_with fail
    refine (CN.out a _).mono ?_; rintro e w' ⟨rfl, rfl⟩
    go_wp2_with fail
    refine (CN.out b _).mono ?_; rintro e w' ⟨rfl, rfl⟩
    go_wp2_with fail
    go_ret
    exact ⟨rfl, rfl⟩

set_option maxRecDepth 100000 in
set_option maxHeartbeats 400000 in
theorem cmpU_any (a b : Int) (w : World) :
    Calls Try.prog 56 #[.int .u64 a, .int .u64 b] w fun e w' => e = .returned (.int .i64 (ordI a b)) ∧ w = w' := by
  have CN : Hid (∀ (x : Int) (W : World), Calls Try.prog 59 #[.int .u64 x] W fun e w' => e = .returned (.bool false) ∧ W = w') := Lib.hid fun x W => by
    go_enter Try.func59, Try.ntmps59
    go_wp2
    go_ret
    exact ⟨by simp, rfl⟩
  rcases Int.lt_trichotomy a b with h | h | h
  · rw [ordI_lt h]
    go_enter Try.func56, Try.ntmps56
    go_wp2_with fail
    refine (CN.out a _).mono ?_; rintro e w' ⟨rfl, rfl⟩
    go_wp2_with fail
    refine (CN.out b _).mono ?_; rintro e w' ⟨rfl, rfl⟩
    go_wp2_with fail
    go_ret
    exact ⟨rfl, rfl⟩
  · subst h
    rw [ordI_eq]
    go_enter Try.func56, Try.ntmps56
    go_wp2_with fail
    refine (CN.out a _).mono ?_; rintro e w' ⟨rfl, rfl⟩
    go_wp2_with fail
    refine (CN.out a _).mono ?_; rintro e w' ⟨rfl, rfl⟩
    go_wp2_with fail
    go_ret
    exact ⟨rfl, rfl⟩
  · rw [ordI_gt h]
    go_enter Try.func56, Try.ntmps56
    go_wp2_with fail
    refine (CN.out a _).mono ?_; rintro e w' ⟨rfl, rfl⟩
    go_wp2_with fail
    refine (CN.out b _).mono ?_; rintro e w' ⟨rfl, rfl⟩
    go_wp2_with fail
    go_ret
    exact ⟨rfl, rfl⟩

/-- The first of two numbers that is not zero. -/
def orI (u v : Int) : Int := if u = 0 then v else u

set_option maxRecDepth 100000 in
set_option maxHeartbeats 400000 in
theorem or_any (u v : Int) (g : Nat) (w : World) (c0 : w.cell? ⟨g, 0, none⟩ = some (.int .i64 u)) (c1 : w.cell? ⟨g, 1, none⟩ = some (.int .i64 v)) :
    Calls Try.prog 54 #[.slice (some ⟨g, 0, none⟩) 2 2] w fun e w' => e = .returned (.int .i64 (orI u v)) ∧ w = w' := by
  go_enter Try.func54, Try.ntmps54
  go_wp2_with fail
  go_loop [8] (fun i => i = .int .i64 0 ∨ (u = 0 ∧ i = .int .i64 1) ∨ (u = 0 ∧ v = 0 ∧ i = .int .i64 2)) (fun i => 2 - (intOf i).toNat)
  case atStart => exact Or.inl rfl
  case round =>
    rcases hrel with rfl | ⟨hu, rfl⟩ | ⟨hu, hv, rfl⟩
    · by_cases hu : u = 0
      · have hb : (u != 0) = false := by simpa using hu
        go_wp2_with fail
        go_round
        case rel => exact Or.inr (Or.inl ⟨hu, rfl⟩)
        case measure => simp [intOf]
      · have hb : (u != 0) = true := by simpa using hu
        have e : Hid (u = orI u v) := Lib.hid (if_neg hu).symm
        clear hu
        go_wp2_with fail
        go_ret
        exact ⟨ret_one e.out, rfl⟩
    · have e : Hid (v = orI u v) := Lib.hid (if_pos hu).symm
      replace hu := Lib.hid hu
      by_cases hv : v = 0
      · have hb : (v != 0) = false := by simpa using hv
        replace hv := Lib.hid hv
        go_wp2_with fail
        go_round
        case rel => exact Or.inr (Or.inr ⟨hu.out, hv.out, rfl⟩)
        case measure => simp [intOf]
      · have hb : (v != 0) = true := by simpa using hv
        clear hv
        go_wp2_with fail
        go_ret
        exact ⟨ret_one e.out, rfl⟩
    · have e : Hid (0 = orI u v) := Lib.hid (by rw [hu, hv]; rfl)
      clear hu hv
      go_wp2_with fail
      go_ret
      exact ⟨ret_one e.out, rfl⟩

set_option maxRecDepth 100000 in
set_option maxHeartbeats 400000 in
theorem cmpW_any (a b : Int) (w : World) :
    Calls Try.prog 44 #[.agg #[.int .i64 ((a) / 18446744073709551616), .int .u64 ((a) % 18446744073709551616)], .agg #[.int .i64 ((b) / 18446744073709551616), .int .u64 ((b) % 18446744073709551616)]] w fun e w' => e = .returned (.int .i64 (ordI a b)) ∧ Below w.heap.size w w' := by
  have E : Hid (orI (ordI (a / 18446744073709551616) (b / 18446744073709551616)) (ordI (a % 18446744073709551616) (b % 18446744073709551616)) = ordI a b) := Lib.hid (ordI_two a b).symm
  have CL := Lib.hid (cmpL_any (a / 18446744073709551616) (b / 18446744073709551616))
  have CU := Lib.hid (cmpU_any (a % 18446744073709551616) (b % 18446744073709551616))
  have A0 := (CellW.new w a 47).alloc (.cells #[.int .i64 (b / 18446744073709551616), .int .u64 (b % 18446744073709551616)] 47)
  have B0 := CellW.new (w.alloc (.cells #[.int .i64 (a / 18446744073709551616), .int .u64 (a % 18446744073709551616)] 47)) b 47
  rw [World.size_alloc] at B0
  have HW := Lib.hid (up2 w (.cells #[.int .i64 (a / 18446744073709551616), .int .u64 (a % 18446744073709551616)] 47) (.cells #[.int .i64 (b / 18446744073709551616), .int .u64 (b % 18446744073709551616)] 47))
  go_enter Try.func44, Try.ntmps44
  go_upto_region 1 with fail
  change Code.wp _ _ _ _ ((w.alloc (.cells #[.int .i64 (a / 18446744073709551616), .int .u64 (a % 18446744073709551616)] 47)).alloc (.cells #[.int .i64 (b / 18446744073709551616), .int .u64 (b % 18446744073709551616)] 47))
  generalize (w.alloc (.cells #[.int .i64 (a / 18446744073709551616), .int .u64 (a % 18446744073709551616)] 47)).alloc (.cells #[.int .i64 (b / 18446744073709551616), .int .u64 (b % 18446744073709551616)] 47) = W at *
  generalize ordI (a / 18446744073709551616) (b / 18446744073709551616) = u at *
  generalize ordI (a % 18446744073709551616) (b % 18446744073709551616) = v at *
  go_region_held3 (fun w' => w'.cell? ⟨w.heap.size, 0, none⟩ = some (.int .i64 (a / 18446744073709551616)) ∧ w'.cell? ⟨w.heap.size, 1, none⟩ = some (.int .u64 (a % 18446744073709551616)) ∧ w'.cell? ⟨w.heap.size + 1, 0, none⟩ = some (.int .i64 (b / 18446744073709551616)) ∧ w'.cell? ⟨w.heap.size + 1, 1, none⟩ = some (.int .u64 (b % 18446744073709551616)))
    ((first | exact ⟨A0.1, A0.2, B0.1, B0.2⟩ | exact ⟨(A0.alloc _).1, (A0.alloc _).2, (B0.alloc _).1, (B0.alloc _).2⟩))
    (first
      | (go_at_call 55; refine (CL.out _).mono ?_; rintro e w1 ⟨rfl, rfl⟩)
      | (go_at_call 56; refine (CU.out _).mono ?_; rintro e w2 ⟨rfl, rfl⟩)
      | (go_at_call 54; refine (or_any u v _ _ (by simp [World.cell?_alloc_new]) (by simp [World.cell?_alloc_new])).mono ?_; rintro e w3 ⟨rfl, rfl⟩))
  all_goals
    go_wp2_with fail
    go_ret
    exact ⟨ret_one E.out, (HW.out.alloc HW.out.size _).drew⟩
end Go.Proofs.Ytmafkknnekkcdaa
