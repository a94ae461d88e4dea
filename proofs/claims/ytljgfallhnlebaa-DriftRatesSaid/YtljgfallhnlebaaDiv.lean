/- Long division of two words by one: the walk over its text, by the quotient's two halves. The divisor is greater than the high word. -/
import Derived.Test.YtljgfallhnlebaaBits
import Derived.Test.YtljgfallhnlebaaLong
import Derived.Deep.CutBlock
import Derived.Deep.DeepCutAuto
namespace Go.Proofs.Ytljgfallhnlebaa
open Go.RowKit

theorem lead_any (y : Int) (h0 : 0 ≤ y) (h1 : y ≤ 18446744073709551615) (w : World) :
    Calls Try.prog 49 #[.int .u64 y] w fun e w' => e = .returned (.int .i64 (64 - (Lib.bitLen y.toNat : Int))) ∧ w = w' :=
  (Try.bits_LeadingZeros64 y w h0 h1).mono fun _ _ ⟨he, hw⟩ => ⟨he, hw.symm⟩

set_option maxRecDepth 100000 in
set_option maxHeartbeats 400000 in
theorem div64_low (lo y : Int) (l0 : 0 ≤ lo) (l1 : lo ≤ 18446744073709551615) (y0 : 0 < y) (y1 : y ≤ 18446744073709551615) (w : World) :
    Calls Try.prog 32 #[.int .u64 0, .int .u64 lo, .int .u64 y] w fun e w' => e = .returned (.tuple #[.int .u64 (lo / y), .int .u64 (lo % y)]) ∧ ∃ n, w.drewN n = w' := by
  have e1 : (y == 0) = false := by simp; omega
  have q0 : 0 ≤ lo / y := Int.ediv_nonneg l0 (by omega)
  have q1 : lo / y ≤ lo := Int.ediv_le_self _ l0
  have r0 := Int.emod_nonneg lo (show y ≠ 0 by omega)
  have r1 := Int.emod_lt_of_pos lo y0
  go_enter Try.func32, Try.ntmps32
  go_wp2
  go_quiet (fail)
  go_wp2
  go_ret2
  exact ⟨rfl, _, rfl⟩

theorem u64_in {x : Int} (h0 : 0 ≤ x) (h1 : x ≤ 18446744073709551615) : IntKind.u64.wrap x = x := by rw [IntKind.wrap_u64]; omega
theorem mask_in (Y : Int) (h0 : 0 ≤ Y) (h1 : Y < 18446744073709551616) : bits .and .u64 Y 4294967295 = Y % 4294967296 := by
  obtain ⟨y, rfl⟩ := Int.eq_ofNat_of_zero_le h0
  exact (Mul64.maskN y (by omega)).trans (by omega)
theorem ne_of_pos {x : Int} (h : 0 < x) : (x == 0) = false := by simp; omega

set_option maxRecDepth 100000 in
set_option maxHeartbeats 1000000 in
theorem div64_high (hi lo y : Int) (k0 : 0 < hi) (k1 : hi < y) (l0 : 0 ≤ lo) (l1 : lo ≤ 18446744073709551615) (y1 : y ≤ 18446744073709551615) (w : World) :
    Calls Try.prog 32 #[.int .u64 hi, .int .u64 lo, .int .u64 y] w fun e w' => e = .returned (.tuple #[.int .u64 ((hi * 18446744073709551616 + lo) / y), .int .u64 ((hi * 18446744073709551616 + lo) % y)]) ∧ w = w' := by
  have e1 : (y == 0) = false := ne_of_pos (by omega)
  have e2 : (hi == 0) = false := ne_of_pos k0
  have cl := lead_any y (by omega) y1
  obtain ⟨s, P, Y, U, V, hs, hlead, hpow, hwy, hor, hwv, hY, hP, hY0, hY1, hU0, hU1, hV0, hV1, hN⟩ := moved hi lo y k0 k1 l0 l1 y1
  rw [hlead] at cl
  have Cl := Lib.hid cl
  have m1 := mask_in Y (by omega) hY1
  have m2 := mask_in V hV0 hV1
  have b1 : 0 ≤ Y % 4294967296 := Int.emod_nonneg _ (by omega)
  have b2 : Y % 4294967296 < 4294967296 := Int.emod_lt_of_pos _ (by omega)
  have b3 : 0 ≤ V % 4294967296 := Int.emod_nonneg _ (by omega)
  have b4 : V % 4294967296 < 4294967296 := Int.emod_lt_of_pos _ (by omega)
  have eY : Y = Y / 4294967296 * 4294967296 + Y % 4294967296 := by omega
  have eV : V = V / 4294967296 * 4294967296 + V % 4294967296 := by omega
  have b5 : 2147483648 ≤ Y / 4294967296 := by omega
  have b6 : Y / 4294967296 < 4294967296 := by omega
  have b7 : 0 ≤ V / 4294967296 := by omega
  have b8 : V / 4294967296 < 4294967296 := by omega
  rw [eV] at hN
  generalize hY1' : Y / 4294967296 = Y1 at *
  generalize Y % 4294967296 = Y0 at *
  generalize hV1' : V / 4294967296 = V1 at *
  generalize V % 4294967296 = V0 at *
  have H1 : Halves U V1 Y Y1 Y0 ((U * 4294967296 + V1) / Y) := ⟨eY, b5, b6, b1, b2, hU0, hU1, b7, b8, rfl⟩
  have H0 : Halves ((U * 4294967296 + V1) % Y) V0 Y Y1 Y0 (((U * 4294967296 + V1) % Y * 4294967296 + V0) / Y) :=
    ⟨eY, b5, b6, b1, b2, Int.emod_nonneg _ (by omega), Int.emod_lt_of_pos _ (by omega), b3, b4, rfl⟩
  obtain ⟨hq, hr⟩ := digits hP (by omega) hY hN rfl rfl
  have L1 := H1.left
  have L0 := H0.left
  rw [← hq, ← hr]
  have g1 := H1.d0
  have g2 := H1.d1
  have g3 := H0.d0
  have g4 := H0.d1
  have i1 := (Guess.start H1).q0
  have i2 := (Guess.start H1).q1
  have i3 := (Guess.start H1).r0
  have i4 := (Guess.start H1).r1
  have u0 := H0.u0
  have u1 := H0.u1
  have j1 := (Guess.start H0).q0
  have j2 := (Guess.start H0).q1
  have j3 := (Guess.start H0).r0
  have j4 := (Guess.start H0).r1
  generalize hD1 : (U * 4294967296 + V1) / Y = D1 at *
  generalize hU' : (U * 4294967296 + V1) % Y = U' at *
  generalize hD0 : (U' * 4294967296 + V0) / Y = D0 at *
  generalize hR : (U' * 4294967296 + V0) % Y = R at *
  have hmin : min s 64 = s := by omega
  have hmin2 : min (64 - s) 64 = 64 - s := by omega
  have n1 : (Y1 == 0) = false := ne_of_pos (by omega)
  have S1 := Lib.hid (Guess.start H1)
  have S0 := Lib.hid (Guess.start H0)
  have HY := Lib.hid hY
  clear hN hq hr hlead hY hD1 hU' hD0 hR eY eV cl
  have G1 := Lib.hid H1
  have G0 := Lib.hid H0
  clear H1 H0 
  have p1 : U / Y1 * Y1 ≤ U := by omega
  have p2 : 0 ≤ U / Y1 * Y1 := Int.mul_nonneg i1 (by omega)
  have p3 : U' / Y1 * Y1 ≤ U' := by omega
  have p4 : 0 ≤ U' / Y1 * Y1 := Int.mul_nonneg j1 (by omega)
  go_enter Try.func32, Try.ntmps32
  go_wp2_with fail
  refine (Cl.out _).mono ?_; rintro e w' ⟨rfl, rfl⟩
  go_upto_block 0 with fail
  go_cut [15] (fun q wx => q = .int .u64 D1 ∧ w = wx)
  case first =>
    go_wp2_with fail
    go_loop [15, 16] (fun q r => ∃ a b : Int, Guess U V1 Y1 Y0 D1 a b ∧ q = .int .u64 a ∧ r = .int .u64 b) (fun q _ => (intOf q).toNat)
    case atStart => exact ⟨_, _, S1.out, rfl, rfl⟩
    case round =>
      obtain ⟨a, b, g, rfl, rfl⟩ := hrel
      have a0 := g.q0
      have a1 := g.q1
      have c0 := g.r0
      have c1 := g.r1
      by_cases hb : 4294967296 ≤ a
      · have hl := Guess.pos G1.out (.inl hb) g
        by_cases hr : b + Y1 < 4294967296
        · have g' := Guess.step G1.out hl g hr
          go_wp2_with fail
          go_round
          case rel => exact ⟨_, _, g', rfl, rfl⟩
          case measure => simp [intOf]; omega
        · have E := Lib.hid (Guess.last G1.out hl g (by omega))
          go_wp2_with fail
          go_meet
          exact ⟨by rw [E.out], rfl⟩
      · obtain ⟨t0, t1⟩ := Guess.prod G1.out g (by omega)
        by_cases ht : 4294967296 * b + V1 < a * Y0
        · have hl := Guess.pos G1.out (.inr ht) g
          by_cases hr : b + Y1 < 4294967296
          · have g' := Guess.step G1.out hl g hr
            go_wp2_with fail
            go_round
            case rel => exact ⟨_, _, g', rfl, rfl⟩
            case measure => simp [intOf]; omega
          · have E := Lib.hid (Guess.last G1.out hl g (by omega))
            go_wp2_with fail
            go_meet
            exact ⟨by rw [E.out], rfl⟩
        · have E := Lib.hid (Guess.found G1.out g (by omega))
          go_wp2_with fail
          go_meet
          exact ⟨by rw [E.out], rfl⟩
  case rest =>
    obtain ⟨rfl, rfl⟩ := hcut
    go_upto_block 2 with fail
    go_cut [18] (fun q wx => q = .int .u64 D0 ∧ w = wx)
    case first =>
      go_wp2_with fail
      go_loop [18, 16] (fun q r => ∃ a b : Int, Guess U' V0 Y1 Y0 D0 a b ∧ q = .int .u64 a ∧ r = .int .u64 b) (fun q _ => (intOf q).toNat)
      case atStart => exact ⟨_, _, S0.out, rfl, rfl⟩
      case round =>
        obtain ⟨a, b, g, rfl, rfl⟩ := hrel
        have a0 := g.q0
        have a1 := g.q1
        have c0 := g.r0
        have c1 := g.r1
        by_cases hb : 4294967296 ≤ a
        · have hl := Guess.pos G0.out (.inl hb) g
          by_cases hr : b + Y1 < 4294967296
          · have g' := Guess.step G0.out hl g hr
            go_wp2_with fail
            go_round
            case rel => exact ⟨_, _, g', rfl, rfl⟩
            case measure => simp [intOf]; omega
          · have E := Lib.hid (Guess.last G0.out hl g (by omega))
            go_wp2_with fail
            go_meet
            exact ⟨by rw [E.out], rfl⟩
        · obtain ⟨t0, t1⟩ := Guess.prod G0.out g (by omega)
          by_cases ht : 4294967296 * b + V0 < a * Y0
          · have hl := Guess.pos G0.out (.inr ht) g
            by_cases hr : b + Y1 < 4294967296
            · have g' := Guess.step G0.out hl g hr
              go_wp2_with fail
              go_round
              case rel => exact ⟨_, _, g', rfl, rfl⟩
              case measure => simp [intOf]; omega
            · have E := Lib.hid (Guess.last G0.out hl g (by omega))
              go_wp2_with fail
              go_meet
              exact ⟨by rw [E.out], rfl⟩
          · have E := Lib.hid (Guess.found G0.out g (by omega))
            go_wp2_with fail
            go_meet
            exact ⟨by rw [E.out], rfl⟩
    case rest =>
      obtain ⟨rfl, rfl⟩ := hcut
      go_wp2_with fail
      go_ret2
      exact ⟨rfl, rfl⟩

theorem div64_any (hi lo y : Int) (k0 : 0 ≤ hi) (k1 : hi < y) (l0 : 0 ≤ lo) (l1 : lo ≤ 18446744073709551615) (y1 : y ≤ 18446744073709551615) (w : World) :
    Calls Try.prog 32 #[.int .u64 hi, .int .u64 lo, .int .u64 y] w fun e w' => e = .returned (.tuple #[.int .u64 ((hi * 18446744073709551616 + lo) / y), .int .u64 ((hi * 18446744073709551616 + lo) % y)]) ∧ ∃ n, w.drewN n = w' := by
  by_cases h : hi = 0
  · subst h
    rw [Int.zero_mul, Int.zero_add]
    exact div64_low lo y l0 l1 k1 y1 w
  · exact (div64_high hi lo y (by omega) k1 l0 l1 y1 w).mono fun e w' ⟨he, hw⟩ => ⟨he, 0, hw⟩
end Go.Proofs.Ytljgfallhnlebaa
