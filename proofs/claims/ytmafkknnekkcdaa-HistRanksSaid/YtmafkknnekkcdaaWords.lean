/- The two words of a whole number, walked. -/
import Derived.Test.YtmafkknnekkcdaaWide
import Derived.Test.YtmafkknnekkcdaaRefE
import Derived.Deep.RegionHeld3
import Derived.Deep.CutBlock
import Derived.Deep.DeepCutAuto
namespace Go.Proofs.Ytmafkknnekkcdaa
open Go.RowKit

/-- What a number's words are: itself, if its high word fits. -/
def wordHi (x : Int) : Int := if Fits (x / 18446744073709551616) then x / 18446744073709551616 else 0
def wordLo (x : Int) : Int := if Fits (x / 18446744073709551616) then x % 18446744073709551616 else 0
def AsWords (x : Int) (w : World) (e : Ending) (w' : World) : Prop :=
  e = .returned (.tuple #[.int .i64 (wordHi x), .int .u64 (wordLo x), .bool (decide (Fits (x / 18446744073709551616)))]) ∧ Below w.heap.size w w'
theorem AsWords.no {x : Int} {w w' : World} (h : ¬ Fits (x / 18446744073709551616)) (hb : Below w.heap.size w w') : AsWords x w (.returned (.tuple #[.int .i64 0, .int .u64 0, .bool false])) w' :=
  ⟨by rw [wordHi, wordLo, if_neg h, if_neg h, decide_eq_false h], hb⟩
theorem AsWords.yes {x hi lo : Int} {w w' : World} (h : Fits (x / 18446744073709551616)) (h1 : hi = x / 18446744073709551616) (h2 : lo = x % 18446744073709551616) (hb : Below w.heap.size w w') : AsWords x w (.returned (.tuple #[.int .i64 hi, .int .u64 lo, .bool true])) w' :=
  ⟨by rw [wordHi, wordLo, if_pos h, if_pos h, decide_eq_true h, h1, h2], hb⟩

set_option maxRecDepth 100000 in
set_option maxHeartbeats 8000000 in
theorem words_any (r : Value) (x : Int) (w : World) (L : Nat) (hx : NumV w r x) (lx : mag x < 65536 ^ L) (h5 : 5 ≤ L) (hL : L ≤ 900) :
    Calls Try.prog 22 #[r] w (AsWords x w) := by
  obtain ⟨s, A, n, c, rfl, hs, ha⟩ := hx.form
  have N0 := ((NumAt.new hx 50).alloc wordObj).alloc (.cells #[.bool false, .slice (some ⟨w.heap.size + 1, 0, none⟩) 5 5] 50)
  have V0 := word_at (w.alloc (.cells #[.bool s, .slice A n c] 50))
  rw [World.size_alloc] at V0
  have hbw : Below w.heap.size w (((w.alloc (.cells #[.bool s, .slice A n c] 50)).alloc wordObj).alloc (.cells #[.bool false, .slice (some ⟨w.heap.size + 1, 0, none⟩) 5 5] 50)) := ext_alloc (ext_alloc (below_new w _) _) _
  have HBW := Lib.hid hbw
  have HX := Lib.hid lx
  have HW5 : Hid ((18446744073709551616 : Int) < 65536 ^ L) := Lib.hid (by have := pow_le h5; rw [pow5] at this; omega)
  have hq : mag (x / 18446744073709551616) < 65536 ^ L := by
    have : mag (x / 18446744073709551616) ≤ mag x := by unfold mag; split <;> split <;> omega
    omega
  have HQ := Lib.hid hq
  clear hbw hx ha lx hq
  go_enter Try.func22, Try.ntmps22
  go_upto_region 2 with fail
  change Code.wp _ _ _ _ (((w.alloc (.cells #[.bool s, .slice A n c] 50)).alloc wordObj).alloc (.cells #[.bool false, .slice (some ⟨w.heap.size + 1, 0, none⟩) 5 5] 50))
  generalize ((w.alloc (.cells #[.bool s, .slice A n c] 50)).alloc wordObj).alloc (.cells #[.bool false, .slice (some ⟨w.heap.size + 1, 0, none⟩) 5 5] 50) = W at *
  obtain ⟨k0, k1, k2, k3, k4⟩ := id V0
  obtain ⟨l0, l1, l2, l3, l4⟩ := id N0
  go_wp2_with fail
  refine (divN_any _ _ x 18446744073709551616 false W L l4 k4 HX.out (by omega) HW5.out (by omega)).mono ?_; rintro e w1 ⟨r1, rfl, hr1, hq1⟩
  go_wp2_with fail
  refine (long_any r1 _ w1 L hr1 HQ.out).mono ?_; rintro e w2 ⟨lv, rfl, hlv, hq2⟩
  have e2 : Below w.heap.size w w2 := ext_step (ext_step HBW.out hq1) hq2
  by_cases hf : Fits (divI x 18446744073709551616 false)
  · have hd : decide (Fits (divI x 18446744073709551616 false)) = true := decide_eq_true hf
    have HE := Lib.hid (hlv hf)
    have V2 := (V0.below hq1).below hq2
    have N2 := (N0.below hq1).below hq2
    have HF := Lib.hid hf
    clear hlv hf k0 k1 k2 k3 k4 l0 l1 l2 l3 l4 V0 N0 hq1 hq2 hr1
    obtain ⟨k0, k1, k2, k3, k4⟩ := id V2
    obtain ⟨l0, l1, l2, l3, l4⟩ := id N2
    have hlv : Fits lv := by rw [HE.out]; exact HF.out
    have elv : lv = x / 18446744073709551616 := HE.out
    have b0 : mag lv < 65536 ^ 5 := by have := mag_long hlv; rw [pow4] at this; rw [pow5]; omega
    have b1 : mag (lv * 18446744073709551616) < 65536 ^ (L + 8) := by
      have h8 := pow_le (show 8 ≤ L + 8 by omega)
      rw [pow8] at h8
      unfold Fits at hlv; unfold mag; split <;> omega
    have b2 : mag (-(lv * 18446744073709551616)) < 65536 ^ (L + 8) := by
      have e : mag (-(lv * 18446744073709551616)) = mag (lv * 18446744073709551616) := by unfold mag; split <;> split <;> omega
      rw [e]; exact b1
    have b3 : mag x < 65536 ^ (L + 8) := by have := pow_le (show L ≤ L + 8 by omega); have := HX.out; omega
    have hy : x + -(lv * 18446744073709551616) = x % 18446744073709551616 := by rw [elv]; omega
    have B0 := Lib.hid b0; have B1 := Lib.hid b1; have B2 := Lib.hid b2; have B3 := Lib.hid b3; have HY := Lib.hid hy; have HLV := Lib.hid hlv; have HLVE := Lib.hid elv
    have HLV2 : Hid (mag 18446744073709551616 < (65536 : Int) ^ 5) := Lib.hid (by rw [pow5]; decide)
    clear b0 b1 b2 b3 hy hlv elv HE HQ
    go_upto_region 5 with fail
    have zn2 := N2.lt
    have zv2 := V2.lt
    go_cut [8] (fun d wx => ∃ (g : Nat) (s6 : Bool) (A6 : Option Addr) (n6 c6 : Nat), d = .pointer (some ⟨g, 0, none⟩) ∧ NumAt wx g s6 A6 n6 c6 (x % 18446744073709551616) ∧ Below w.heap.size w wx)
    case first =>
      go_region_held3 (fun w' => w'.cell? ⟨w.heap.size, 0, none⟩ = some (.bool s) ∧ w'.cell? ⟨w.heap.size, 1, none⟩ = some (.slice A n c) ∧ w'.cell? ⟨w.heap.size + 1 + 1, 0, none⟩ = some (.bool false) ∧ w'.cell? ⟨w.heap.size + 1 + 1, 1, none⟩ = some (.slice (some ⟨w.heap.size + 1, 0, none⟩) 5 5))
        ((first | exact ⟨N2.c0, N2.c1, V2.c0, V2.c1⟩ | exact ⟨N3.c0, N3.c1, V3.c0, V3.c1⟩ | exact ⟨N4.c0, N4.c1, V4.c0, V4.c1⟩ | exact ⟨N5.c0, N5.c1, V5.c0, V5.c1⟩ | exact ⟨N6.c0, N6.c1, V6.c0, V6.c1⟩ | exact ⟨(NumAt.alloc N2 fresh).c0, (NumAt.alloc N2 fresh).c1, (NumAt.alloc V2 fresh).c0, (NumAt.alloc V2 fresh).c1⟩ | exact ⟨(NumAt.alloc N3 fresh).c0, (NumAt.alloc N3 fresh).c1, (NumAt.alloc V3 fresh).c0, (NumAt.alloc V3 fresh).c1⟩ | exact ⟨(NumAt.alloc N4 fresh).c0, (NumAt.alloc N4 fresh).c1, (NumAt.alloc V4 fresh).c0, (NumAt.alloc V4 fresh).c1⟩ | exact ⟨(NumAt.alloc N5 fresh).c0, (NumAt.alloc N5 fresh).c1, (NumAt.alloc V5 fresh).c0, (NumAt.alloc V5 fresh).c1⟩ | exact ⟨(NumAt.alloc N6 fresh).c0, (NumAt.alloc N6 fresh).c1, (NumAt.alloc V6 fresh).c0, (NumAt.alloc V6 fresh).c1⟩ | exact ⟨(NumAt.alloc N6 (.cells #[.bool s6, .slice A6 n6 c6] 50)).c0, (NumAt.alloc N6 (.cells #[.bool s6, .slice A6 n6 c6] 50)).c1, (NumAt.alloc V6 (.cells #[.bool s6, .slice A6 n6 c6] 50)).c0, (NumAt.alloc V6 (.cells #[.bool s6, .slice A6 n6 c6] 50)).c1⟩ | (have hk := N6.put D6 (by omega) s6 A6 n6 c6; have hv := V6.put D6 (by omega) s6 A6 n6 c6; exact ⟨hk.c0, hk.c1, hv.c0, hv.c1⟩)))
        (first
          | (go_at_call 21; refine (of_any lv _ HLV.out).mono ?_; rintro e w3 ⟨r3, rfl, hr3, hq3⟩; have D3 := NumAt.below (NumAt.new (zero_num w2) 50) (below_undrew hq3); obtain ⟨p0, p1, p2, p3, -⟩ := id D3; have V3 := (V2.alloc fresh).below (below_undrew hq3); have N3 := (N2.alloc fresh).below (below_undrew hq3); have e3 : Below w.heap.size w w3 := ext_step (ext_alloc e2 fresh) (below_undrew hq3); have zn3 := N3.lt; have zv3 := V3.lt)
          | (go_at_call 21; refine (of_any lv _ HLV.out).mono ?_; rintro e w3 ⟨r3, rfl, hr3, hq3⟩; have V3 := V2.below (below_undrew hq3); have N3 := N2.below (below_undrew hq3); have e3 : Below w.heap.size w w3 := ext_step e2 (below_undrew hq3); have zn3 := N3.lt; have zv3 := V3.lt)
          | (go_at_call 42; refine (mulN_any _ _ lv 18446744073709551616 _ 5 (by exact hr3) (by exact V3.num) B0.out HLV2.out (by omega)).mono ?_; rintro e w4 ⟨r4, rfl, hr4, hq4⟩; have D4 := D3.below hq4; obtain ⟨p0, p1, p2, p3, -⟩ := id D4; have V4 := V3.below hq4; have N4 := N3.below hq4; have e4 : Below w.heap.size w w4 := ext_step e3 hq4; have zn4 := N4.lt; have zv4 := V4.lt)
          | (go_at_call 42; refine (mulN_any _ _ lv 18446744073709551616 _ 5 (by exact (NumV.below hr3 (below_new w3 fresh))) (by exact (V3.alloc fresh).num) B0.out HLV2.out (by omega)).mono ?_; rintro e w4 ⟨r4, rfl, hr4, hq4⟩; have D4 := NumAt.below (NumAt.new (zero_num w3) 50) hq4; obtain ⟨p0, p1, p2, p3, -⟩ := id D4; have V4 := (V3.alloc fresh).below hq4; have N4 := (N3.alloc fresh).below hq4; have e4 : Below w.heap.size w w4 := ext_step (ext_alloc e3 fresh) hq4; have zn4 := N4.lt; have zv4 := V4.lt)
          | (go_at_call 42; refine (mulN_any _ _ lv 18446744073709551616 _ 5 (by exact hr3) (by exact V3.num) B0.out HLV2.out (by omega)).mono ?_; rintro e w4 ⟨r4, rfl, hr4, hq4⟩; have V4 := V3.below hq4; have N4 := N3.below hq4; have e4 : Below w.heap.size w w4 := ext_step e3 hq4; have zn4 := N4.lt; have zv4 := V4.lt)
          | (go_at_call 41; refine (neg_any _ (lv * 18446744073709551616) _ (L + 8) (by exact hr4) B1.out (by omega)).mono ?_; rintro e w5 ⟨r5, rfl, hr5, hq5⟩; have D5 := D4.below hq5; obtain ⟨p0, p1, p2, p3, -⟩ := id D5; have V5 := V4.below hq5; have N5 := N4.below hq5; have e5 : Below w.heap.size w w5 := ext_step e4 hq5; have zn5 := N5.lt; have zv5 := V5.lt)
          | (go_at_call 41; refine (neg_any _ (lv * 18446744073709551616) _ (L + 8) (by exact (NumV.below hr4 (below_new w4 fresh))) B1.out (by omega)).mono ?_; rintro e w5 ⟨r5, rfl, hr5, hq5⟩; have D5 := NumAt.below (NumAt.new (zero_num w4) 50) hq5; obtain ⟨p0, p1, p2, p3, -⟩ := id D5; have V5 := (V4.alloc fresh).below hq5; have N5 := (N4.alloc fresh).below hq5; have e5 : Below w.heap.size w w5 := ext_step (ext_alloc e4 fresh) hq5; have zn5 := N5.lt; have zv5 := V5.lt)
          | (go_at_call 41; refine (neg_any _ (lv * 18446744073709551616) _ (L + 8) (by exact hr4) B1.out (by omega)).mono ?_; rintro e w5 ⟨r5, rfl, hr5, hq5⟩; have V5 := V4.below hq5; have N5 := N4.below hq5; have e5 : Below w.heap.size w w5 := ext_step e4 hq5; have zn5 := N5.lt; have zv5 := V5.lt)
          | (go_at_call 20; refine (addN_any _ _ x (-(lv * 18446744073709551616)) _ (L + 8) (by exact N5.num) (by exact hr5) B3.out B2.out (by omega)).mono ?_; rintro e w6 ⟨r6, rfl, hr6, hq6⟩; have D6 := D5.below hq6; obtain ⟨p0, p1, p2, p3, -⟩ := id D6; have V6 := V5.below hq6; have N6 := N5.below hq6; have e6 : Below w.heap.size w w6 := ext_step e5 hq6; have zn6 := N6.lt; have zv6 := V6.lt; have HR6 := Lib.hid hr6; obtain ⟨s6, A6, n6, c6, rfl, -, -⟩ := hr6.form)
          | (go_at_call 20; refine (addN_any _ _ x (-(lv * 18446744073709551616)) _ (L + 8) (by exact (N5.alloc fresh).num) (by exact (NumV.below hr5 (below_new w5 fresh))) B3.out B2.out (by omega)).mono ?_; rintro e w6 ⟨r6, rfl, hr6, hq6⟩; have D6 := NumAt.below (NumAt.new (zero_num w5) 50) hq6; obtain ⟨p0, p1, p2, p3, -⟩ := id D6; have V6 := (V5.alloc fresh).below hq6; have N6 := (N5.alloc fresh).below hq6; have e6 : Below w.heap.size w w6 := ext_step (ext_alloc e5 fresh) hq6; have zn6 := N6.lt; have zv6 := V6.lt; have HR6 := Lib.hid hr6; obtain ⟨s6, A6, n6, c6, rfl, -, -⟩ := hr6.form)
          | (go_at_call 20; refine (addN_any _ _ x (-(lv * 18446744073709551616)) _ (L + 8) (by exact N5.num) (by exact hr5) B3.out B2.out (by omega)).mono ?_; rintro e w6 ⟨r6, rfl, hr6, hq6⟩; have V6 := V5.below hq6; have N6 := N5.below hq6; have e6 : Below w.heap.size w w6 := ext_step e5 hq6; have zn6 := N6.lt; have zv6 := V6.lt; have HR6 := Lib.hid hr6; obtain ⟨s6, A6, n6, c6, rfl, -, -⟩ := hr6.form))
      all_goals
        go_wp2_with fail
        go_meet
        rw [HY.out] at hr6
        first
          | exact ⟨_, s6, A6, n6, c6, rfl, NumAt.new hr6 _, ext_alloc e6 _⟩
          | exact ⟨_, s6, A6, n6, c6, rfl, D6.set_ hr6, ext_put (ext_put e6 (by dsimp only; omega) _) (by dsimp only; omega) _⟩
    case rest =>
      obtain ⟨g, s6, A6, n6, c6, rfl, hN, hB⟩ := hcut
      clear N2 V2 e2 k0 k1 k2 k3 k4 l0 l1 l2 l3 l4 zn2 zv2
      have elv : lv = x / 18446744073709551616 := HLVE.out
      have hfx : Fits (x / 18446744073709551616) := HF.out
      have ELV := Lib.hid elv
      have HFX := Lib.hid hfx
      have y0 : 0 ≤ x % 18446744073709551616 := by omega
      have y1 : x % 18446744073709551616 < 18446744073709551616 := by omega
      generalize hy : x % 18446744073709551616 = y at *
      have HYX := Lib.hid hy
      obtain ⟨q0, q1, q2, q3, v6, e6, xs, hr, hxn, hxv⟩ := hN
      injection e6 with e6
      have e7 := congrArg (fun a : Array Value => a[1]?) e6
      simp at e7
      subst e7
      rw [mag_pos (by omega)] at hxv
      have hlen := hxn.len hr.2 (L := 4) (by rw [hxv, pow4]; exact y1)
      obtain ⟨A7, c7, e8, hc, hcell⟩ := hr.1
      injection e8 with e9 e10 e11
      subst e9; subst e10; subst e11
      have D := Lib.hid hr.2
      have HC := Lib.hid hcell
      have HV := Lib.hid hxv
      clear hr hxn hcell hxv e6 hy elv hfx
      go_wp2_with fail
      go_loop [9, 10] (fun v i => ∃ (k : Nat) (v0 : Int), k ≤ xs.length ∧ i = .int .i64 ((k : Int) - 1) ∧ v = .int .u64 v0 ∧ Horner y (dig xs) k v0) (fun _ i => (intOf i + 1).toNat)
      case atStart => exact ⟨xs.length, 0, Nat.le_refl _, rfl, rfl, ⟨Int.le_refl _, by rw [val_more (Nat.le_refl _), HV.out]; omega⟩⟩
      case round =>
        obtain ⟨k, v0, hk, rfl, rfl, hh⟩ := hrel
        by_cases h0 : k = 0
        · subst h0
          have hvx : v0 = y := by have := hh.eq; simp [sumD] at this; exact this
          have HVX := Lib.hid hvx
          clear hvx hh HC HV D
          have ez : ((0 : Nat) : Int) - 1 = -1 := rfl
          rw [ez]
          go_wp2_with fail
          go_ret3
          exact AsWords.yes HFX.out ELV.out (HVX.out.trans HYX.out.symm) hB
        · obtain ⟨j, rfl⟩ : ∃ j, k = j + 1 := ⟨k - 1, by omega⟩
          obtain ⟨ad, rfl, hb2, hcj⟩ := HC.out (by omega)
          have hck := hcj j (by omega)
          rw [← dig_at (show j < xs.length by omega)] at hck
          have hd2 := D.out.at_ j
          have hst := hh.step hd2.1
          have v1 := hh.v0
          have v2 := hst.le D.out.at_
          have HH := Lib.hid hst
          clear hst hh hcj hb2
          have ej : ((j + 1 : Nat) : Int) - 1 = j := by omega
          rw [ej]
          generalize dig xs j = d at *
          go_wp2_with fail
          go_round
          case rel => exact ⟨j, _, by omega, by go_num, rfl, HH.out⟩
          case measure => simp [intOf]
  · have hd : decide (Fits (divI x 18446744073709551616 false)) = false := decide_eq_false hf
    have hno : ¬ Fits (x / 18446744073709551616) := hf
    clear hlv
    go_wp2_with fail
    go_ret3
    exact AsWords.no hno e2
end Go.Proofs.Ytmafkknnekkcdaa
