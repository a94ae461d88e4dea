/- The document's own honest readings: pair of noonmarkref04, walked. -/
import Derived.Test.YtljgfallhnlebaaDriA
import Derived.Test.YtljgfallhnlebaaCmp
import Derived.Test.YtljgfallhnlebaaPairs
import Derived.Deep.CutBlock
import Derived.Deep.DeepCutAuto
namespace Go.Proofs.Ytljgfallhnlebaa
open Go.RowKit

theorem cmp_le {x y : Int} : decide (cmpI x y ≤ 0) = decide (x ≤ y) := by
  unfold cmpI
  apply decide_eq_decide.2
  by_cases h : y < x
  · rw [if_pos h]; omega
  · rw [if_neg h]; split <;> omega

set_option maxRecDepth 100000 in
set_option maxHeartbeats 4000000 in
theorem pair_any (r a1 a2 b1 b2 : Int) (w : World) (hr : 0 ≤ r ∧ r ≤ 100000) (ha : timeB (a1, a2) = true) (hb : timeB (b1, b2) = true) :
    Calls Try.prog 29 #[.int .i64 r, .agg #[.int .i64 a1, .int .i64 a2], .agg #[.int .i64 b1, .int .i64 b2]] w fun e w' => e = .returned (.bool (pairB r (a1, a2) (b1, b2))) ∧ Below w.heap.size w w' := by
  obtain ⟨r1, r2⟩ := hr
  obtain ⟨x1, x2, x3, x4⟩ := time_iff.1 ha
  obtain ⟨y1, y2, y3, y4⟩ := time_iff.1 hb
  clear ha hb
  dsimp only at x1 x2 x3 x4 y1 y2 y3 y4
  have hA := (At2.new w (.int .i64 a1) (.int .i64 a2) 46).alloc (.cells #[.int .i64 b1, .int .i64 b2] 46)
  have hB := At2.new (w.alloc (.cells #[.int .i64 a1, .int .i64 a2] 46)) (.int .i64 b1) (.int .i64 b2) 46
  rw [World.size_alloc] at hB
  have hBL := grew2 w (.cells #[.int .i64 a1, .int .i64 a2] 46) (.cells #[.int .i64 b1, .int .i64 b2] 46)
  by_cases h1 : b1 < a1
  · have HS : Hid (pairB r (a1, a2) (b1, b2) = true) := Lib.hid (decide_eq_true (Or.inl h1))
    rw [HS.out]
    clear hA hB
    go_enter Try.func29, Try.ntmps29
    go_wp2_with fail
    go_ret
    exact ⟨rfl, hBL⟩
  by_cases h2 : b2 < a2
  · have HS : Hid (pairB r (a1, a2) (b1, b2) = false) := Lib.hid (decide_eq_false (by dsimp only; omega))
    rw [HS.out]
    clear hA hB
    go_enter Try.func29, Try.ntmps29
    go_wp2_with fail
    go_ret
    exact ⟨rfl, hBL⟩
  obtain ⟨d, hd⟩ : ∃ d, b1 - a1 = d := ⟨_, rfl⟩
  obtain ⟨c, hc⟩ : ∃ c, b2 - a2 = c := ⟨_, rfl⟩
  have d1 : 0 ≤ d := by omega
  have d2 : d ≤ 4611686018427387903 := by omega
  have c1 : 0 ≤ c := by omega
  have c2 : c ≤ 4611686018427387903 := by omega
  have HP : Hid (pairB r (a1, a2) (b1, b2) = decide ((max (c - d) (d - c) - 1) * 1000000 ≤ r * d)) := Lib.hid (by
    unfold pairB
    dsimp only
    rw [hd, hc]
    refine decide_eq_decide.2 ⟨fun h => ?_, fun h => Or.inr ⟨by omega, h⟩⟩
    rcases h with h | h
    · exact absurd h h1
    · exact h.2)
  have HD := Lib.hid hd
  have HC := Lib.hid hc
  have q1 : -9223372036854775808 ≤ c - d := by omega
  obtain ⟨m, hm⟩ : ∃ m, max (c - d) (d - c) = m := ⟨_, rfl⟩
  have HM := Lib.hid hm
  have m1 : 0 ≤ m := by omega
  have m2 : m ≤ 4611686018427387903 := by omega
  rw [hm] at HP
  by_cases h3 : m ≤ 1
  · have HS : Hid (pairB r (a1, a2) (b1, b2) = true) := Lib.hid (HP.out.trans (decide_eq_true (by have := Int.mul_nonneg r1 d1; omega)))
    rw [HS.out]
    clear hA hB HP q1
    go_enter Try.func29, Try.ntmps29
    go_wp2_with fail
    go_ret
    exact ⟨rfl, hBL⟩
  have CO := Lib.hid fun x W (h : Fits x) => of_any x W h
  have CM := Lib.hid fun (u v : Value) x y (W : World) (h : NumV W u x) (k : NumV W v y) (f : Fits x) (g : Fits y) => mulN_any u v x y W 4 h k (mag_long f) (mag_long g) (by omega)
  have CC := Lib.hid fun (u v : Value) (W : World) (h : NumV W u ((m - 1) * 1000000)) (k : NumV W v (r * d)) => cmp_any u v _ _ W 8 h k (mag_prod (by unfold Fits; omega) (by decide)) (mag_prod (by unfold Fits; omega) (by unfold Fits; omega)) (by omega)
  have F1 : Hid (Fits (m - 1)) := Lib.hid (by unfold Fits; omega)
  have F2 : Hid (Fits 1000000) := Lib.hid (by decide)
  have F3 : Hid (Fits r) := Lib.hid (by unfold Fits; omega)
  have F4 : Hid (Fits d) := Lib.hid (by unfold Fits; omega)
  rw [← cmp_le] at HP
  clear hA hB q1
  go_enter Try.func29, Try.ntmps29
  go_wp2_with fail
  refine (CO.out _ _ F1.out).mono ?_; rintro e w1 ⟨n1, rfl, N1, q⟩
  replace hBL := ext_step hBL q
  go_wp2_with fail
  refine (CO.out _ _ F2.out).mono ?_; rintro e w2 ⟨n2, rfl, N2, q⟩
  replace hBL := ext_step hBL q
  replace N1 := N1.below q
  go_wp2_with fail
  refine (CM.out _ _ _ _ _ N1 N2 F1.out F2.out).mono ?_; rintro e w3 ⟨n3, rfl, N3, q⟩
  replace hBL := ext_step hBL q
  clear N1 N2 q
  obtain ⟨s3, A3, n3, c3, rfl, -, -⟩ := N3.form
  have hL := NumAt.new N3 57
  replace hBL := ext_alloc hBL (.cells #[.bool s3, .slice A3 n3 c3] 57)
  go_wp2_with fail
  generalize w3.heap.size = gL at *
  generalize w3.alloc (.cells #[.bool s3, .slice A3 n3 c3] 57) = W3 at *
  refine (CO.out _ _ F3.out).mono ?_; rintro e w4 ⟨n4, rfl, N4, q⟩
  replace hBL := ext_step hBL q
  replace hL := hL.below q
  go_wp2_with fail
  refine (CO.out _ _ F4.out).mono ?_; rintro e w5 ⟨n5, rfl, N5, q⟩
  replace hBL := ext_step hBL q
  replace hL := hL.below q
  replace N4 := N4.below q
  go_wp2_with fail
  refine (CM.out _ _ _ _ _ N4 N5 F3.out F4.out).mono ?_; rintro e w6 ⟨n6, rfl, N6, q⟩
  replace hBL := ext_step hBL q
  replace hL := hL.below q
  clear N4 N5 q
  obtain ⟨s6, A6, n6, c6, rfl, -, -⟩ := N6.form
  have hR := NumAt.new N6 57
  replace hL := hL.alloc (.cells #[.bool s6, .slice A6 n6 c6] 57)
  replace hBL := ext_alloc hBL (.cells #[.bool s6, .slice A6 n6 c6] 57)
  go_upto_region 12 with fail
  generalize w6.heap.size = gR at *
  generalize w6.alloc (.cells #[.bool s6, .slice A6 n6 c6] 57) = W6 at *
  obtain ⟨l0, l1, -, -, l4⟩ := id hL
  obtain ⟨k0, k1, -, -, k4⟩ := id hR
  go_wp2_with fail
  refine (CC.out _ _ _ l4 k4).mono ?_; rintro e w7 ⟨rfl, q⟩
  go_wp2_with fail
  go_ret
  exact ⟨ret_bool HP.out.symm, ext_step hBL q⟩
end Go.Proofs.Ytljgfallhnlebaa
