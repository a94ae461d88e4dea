/- CodeSizes, walked. -/
import Derived.Test.YtcihojimojipiaaCodV
namespace Go.Proofs.Ytcihojimojipiaa
open Go.RowKit
variable {Rd : World → Nat → Nat → Nat → List Int → Int → Prop}

theorem uints_one (n : Nat) : uintsL [(n : Int)] = lebL n := by
  unfold uintsL
  simp

set_option maxRecDepth 100000 in
set_option maxHeartbeats 4000000 in
theorem codeSizes_any (G : CodeC Rd) (a b : Nat) (v : Int) (w : World) (ha : a < 18446744073709551616) (hb : b < 18446744073709551616) (hv : Fits v) :
    Calls Try.prog 7 #[.int .u64 a, .int .u64 b, .int .i64 v] w fun e w' => e = .returned (.bool true) ∧ Below w.heap.size w w' := by
  have C0 := Lib.hid (alive6_any G)
  have CA : Hid (∀ W u, Lst W W.heap.size .u64 u [(a : Int)] → Calls Try.prog 17 #[u] W (Copied 5 .u8 W (lebL a))) := Lib.hid fun W u h => by
    have := G.uints u _ W h (by intro c hc; simp at hc; omega) (by simp)
    rwa [uints_one] at this
  have CB : Hid (∀ W u, Lst W W.heap.size .u64 u [(b : Int)] → Calls Try.prog 17 #[u] W (Copied 5 .u8 W (lebL b))) := Lib.hid fun W u h => by
    have := G.uints u _ W h (by intro c hc; simp at hc; omega) (by simp)
    rwa [uints_one] at this
  have hx1 := leb_pos a
  have hx2 := leb_ten ha
  have hx3 := leb_one (n := a)
  have hx4 := leb_two (n := a)
  have hx5 := leb_mono a b
  have hy2 := leb_ten hb
  have hy1 := leb_pos b
  have CT : Hid (∀ W, Calls Try.prog 12 #[.int .i64 v] W fun e w' => e = .returned (.int .u64 (turnI v)) ∧ Below W.heap.size W w') := Lib.hid fun W => G.turn v W hv
  have CU : Hid (∀ W, Calls Try.prog 10 #[.int .u64 (turnI v)] W fun e w' => e = .returned (.int .i64 v) ∧ Below W.heap.size W w') := Lib.hid fun W => by
    have := G.unturn (turnI v) W (turn_bd hv).1 (turn_bd hv).2
    rwa [unturn_turn] at this
  have HT : Hid (turnI v = if 0 ≤ v then 2 * v else 2 * (-(v + 1)) + 1) := Lib.hid rfl
  obtain ⟨v0, v1⟩ : -9223372036854775808 ≤ v ∧ v ≤ 9223372036854775807 := hv
  clear G
  generalize lebL a = xs at *
  generalize lebL b = ys at *
  generalize turnI v = t at *
  go_enter Try.func7, Try.ntmps7
  go_wp2_with fail
  refine (C0.out _).mono ?_; rintro e w1 ⟨rfl, hB⟩
  have HU := Lib.hid (lits_new w1 28 .u64 [(a : Int)] _ rfl w1.heap.size 1 (Lib.hid rfl) rfl)
  replace hB := ext_alloc hB (.cells (([(a : Int)] : List Int).map (Value.int .u64)).toArray 28)
  go_wp2_with fail
  refine (CA.out _ _ HU.out).mono ?_; rintro e w2 ⟨u, rfl, hO, h⟩
  replace hB := ext_step hB h
  obtain ⟨A, c, rfl⟩ := hO.val
  have HU := Lib.hid (lits_new w2 28 .u64 [(b : Int)] _ rfl w2.heap.size 1 (Lib.hid rfl) rfl)
  replace hB := ext_alloc hB (.cells (([(b : Int)] : List Int).map (Value.int .u64)).toArray 28)
  clear hO h C0 CA
  go_wp2_with fail
  refine (CB.out _ _ HU.out).mono ?_; rintro e w3 ⟨u, rfl, hO, h⟩
  replace hB := ext_step hB h
  obtain ⟨A2, c2, rfl⟩ := hO.val
  clear hO h CB HU
  generalize xs.length = x at *
  generalize ys.length = y at *
  have j1 : ((x : Int) == 1) = decide ((a : Int) < 128) := by
    rw [Bool.eq_iff_iff]; simp; omega
  have j2 : decide ((x : Int) ≤ 2) = decide ((a : Int) < 16384) := by
    rw [decide_eq_decide]; omega
  have j3 : ¬ (x : Int) < 1 := by omega
  have j4 : ¬ (10 : Int) < (x : Int) := by omega
  by_cases hab : (a : Int) ≤ (b : Int)
  · have j5 : ¬ (y : Int) < (x : Int) := by omega
    clear hx1 hx2 hx3 hx4 hx5 hy1 hy2
    by_cases hv0 : 0 ≤ v
    · have HE : Hid (t = 2 * v) := Lib.hid (HT.out.trans (if_pos hv0))
      rw [HE.out] at CT CU
      clear HT HE
      go_wp2_with fail
      refine (CT.out _).mono ?_; rintro e w4 ⟨rfl, h⟩
      replace hB := ext_step hB h
      clear h CT
      go_wp2_with fail
      refine (CU.out _).mono ?_; rintro e w5 ⟨rfl, h⟩
      replace hB := ext_step hB h
      clear h CU
      go_wp2_with fail
      go_ret
      exact ⟨rfl, hB⟩
    · have HE : Hid (t = 2 * (-(v + 1)) + 1) := Lib.hid (HT.out.trans (if_neg hv0))
      rw [HE.out] at CT CU
      clear HT HE
      go_wp2_with fail
      refine (CT.out _).mono ?_; rintro e w4 ⟨rfl, h⟩
      replace hB := ext_step hB h
      clear h CT
      go_wp2_with fail
      refine (CU.out _).mono ?_; rintro e w5 ⟨rfl, h⟩
      replace hB := ext_step hB h
      clear h CU
      go_wp2_with fail
      go_ret
      exact ⟨rfl, hB⟩
  · clear hx1 hx2 hx3 hx4 hx5 hy1 hy2
    by_cases hv0 : 0 ≤ v
    · have HE : Hid (t = 2 * v) := Lib.hid (HT.out.trans (if_pos hv0))
      rw [HE.out] at CT CU
      clear HT HE
      go_wp2_with fail
      refine (CT.out _).mono ?_; rintro e w4 ⟨rfl, h⟩
      replace hB := ext_step hB h
      clear h CT
      go_wp2_with fail
      refine (CU.out _).mono ?_; rintro e w5 ⟨rfl, h⟩
      replace hB := ext_step hB h
      clear h CU
      go_wp2_with fail
      go_ret
      exact ⟨rfl, hB⟩
    · have HE : Hid (t = 2 * (-(v + 1)) + 1) := Lib.hid (HT.out.trans (if_neg hv0))
      rw [HE.out] at CT CU
      clear HT HE
      go_wp2_with fail
      refine (CT.out _).mono ?_; rintro e w4 ⟨rfl, h⟩
      replace hB := ext_step hB h
      clear h CT
      go_wp2_with fail
      refine (CU.out _).mono ?_; rintro e w5 ⟨rfl, h⟩
      replace hB := ext_step hB h
      clear h CU
      go_wp2_with fail
      go_ret
      exact ⟨rfl, hB⟩
end Go.Proofs.Ytcihojimojipiaa
