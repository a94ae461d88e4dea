/- A product of whole numbers, walked: limb by limb, into a row of the call's own. -/
import Derived.Test.YtmafkknnekkcdaaRefE
import Derived.Test.YtmafkknnekkcdaaRefO
import Derived.Test.YtmafkknnekkcdaaLimbs2
namespace Go.Proofs.Ytmafkknnekkcdaa
open Go.RowKit

set_option maxRecDepth 100000 in
set_option maxHeartbeats 2000000 in
theorem mul_rows (s t : Bool) (A A' : Option Addr) (c c' : Nat) (xs ys : List Int) (w : World) (ha : RowV w (.slice A xs.length c) xs) (hb : RowV w (.slice A' ys.length c') ys) (lx : xs.length ≤ 1000) (ly : ys.length ≤ 1000) :
    Calls Try.prog 42 #[.agg #[.bool s, .slice A xs.length c], .agg #[.bool t, .slice A' ys.length c']] w (GivesN w (sided (s != t) (val xs * val ys))) := by
  obtain ⟨i0, hi, hz0, hz1, hz2⟩ := info_parts int_info
  have hbw := below_two w s (.slice A xs.length c) t (.slice A' ys.length c')
  have HA := Lib.hid (ha.below hbw)
  have HB := Lib.hid (hb.below hbw)
  have HS := six_two w s (.slice A xs.length c) t (.slice A' ys.length c')
  have HZ := Lib.hid (two_size w s (.slice A xs.length c) t (.slice A' ys.length c'))
  have HBW := Lib.hid hbw
  have DX := Lib.hid ha.2
  have DY := Lib.hid hb.2
  clear ha hb hbw
  go_enter Try.func42, Try.ntmps42
  go_upto_region 1 with fail
  change Code.wp _ _ _ _ (two w s (Value.slice A xs.length c) t (Value.slice A' ys.length c'))
  generalize two w s (Value.slice A xs.length c) t (Value.slice A' ys.length c') = W at *
  obtain ⟨k1, k2, k3, k4, k5, k6, f0, f1⟩ := id HS
  go_wp2_with (at_make; go_must (refine wpList_make_full _ rfl (.tmp 16) (.tmp 16) 48 rfl W.heap.size 3 i0 (.int .i64 0) 1 Try.underlying48 hi hz0 hz1 .i64 .i64 _ _ (xs.length + ys.length + 1) rfl rfl (by omega) (by omega) (by rw [hz2]; omega) (by unfold maxLen; omega) (Nat.le_refl _) ?_); intro w1 hown1 hgrow1)
  have hrow1 := OwnAt.made hown1
  have hbel1 : Below W.heap.size W w1 := (Below.refl _ _).grown hgrow1 (Nat.le_refl _) (by simp)
  clear hown1 hgrow1 k1 k2 k3 k4 k5 k6 f0 f1 hi hz0 hz1 hz2
  generalize hg : W.heap.size = g at *
  have HG := Lib.hid hg
  clear hg
  go_loopw [6] (fun i wr => ∃ (i0 : Nat) (zs : List Int), i0 ≤ xs.length ∧ i = .int .i64 i0 ∧ OwnAt wr g zs ∧ Mulling xs ys i0 0 zs 0 ∧ Below g W wr) (fun i _ => xs.length - (intOf i).toNat)
  case atStart => exact ⟨0, _, Nat.zero_le _, rfl, hrow1, Mulling.start, hbel1⟩
  case round =>
    obtain ⟨i, zs, hin, rfl, hown, hmul, hbel⟩ := hrel
    clear hrow1 hbel1
    have HS1 := HS.keep (HG.out.trans HZ.out) (by rw [HG.out]; exact hbel)
    obtain ⟨k1, k2, k3, k4, k5, k6, f0, f1⟩ := id HS1
    by_cases hlt : i < xs.length
    · go_wp2_with fail
      clear k1 k2 k3 k4 k5 k6 f0 f1
      obtain ⟨wo, rfl⟩ : ∃ wo : World, wo = wr := ⟨_, rfl⟩
      go_loopw [7, 8] (fun c k wr => ∃ (k0 : Nat) (zs : List Int) (C : Int), k0 ≤ ys.length + 1 ∧ c = .int .i64 C ∧ k = .int .i64 k0 ∧ OwnAt wr g zs ∧ Mulling xs ys i k0 zs C ∧ Below g W wr) (fun _ k _ => ys.length + 1 - (intOf k).toNat)
      case atStart => exact ⟨0, zs, 0, Nat.zero_le _, rfl, rfl, hown, hmul, hbel⟩
      case round =>
        clear hown hmul hbel HS1 zs
        obtain ⟨k, zs, C, hkn, rfl, rfl, hown, hmul, hbel⟩ := hrel
        have HS1 := HS.keep (HG.out.trans HZ.out) (by rw [HG.out]; exact hbel)
        obtain ⟨k1, k2, k3, k4, k5, k6, f0, f1⟩ := id HS1
        have hC0 := hmul.c0
        have hC1 := hmul.c1
        by_cases hgo : k < ys.length ∨ 0 < C
        · have hk := hmul.few DX.out DY.out hgo
          have hlen := hmul.len
          have oc := hown.cell (j := i + k) (by omega)
          have ofr := hown.free (i + k)
          have hgs : g ≤ wr.heap.size := by rw [← HG.out]; exact hbel.size
          obtain ⟨⟨A0, c0, e, hc, hr⟩, -⟩ := HA.out
          injection e with e1 e2 e3
          subst e1; subst e3
          obtain ⟨ad, rfl, hblk, hcell⟩ := hr (by omega)
          have ac := (hbel.cell (p := ad.add i) (by rw [block_of_add]; exact hblk)).trans (hcell i hlt)
          rw [← dig_at hlt] at ac
          have dx := DX.out.at_ i
          have dy := DY.out.at_ k
          have dz := hmul.digs.at_ (i + k)
          have hst := Lib.hid (hmul.step DX.out DY.out hlt hk)
          have hset := Lib.hid (fun n d => (hown.drewN n).set_ (i + k) d)
          have pb := prod_bd dx dy
          have cl := fun n => limb_any _ ys k (wr.drewN n) (HB.out.keep (fun _ hp => hbel.cell hp) hgs) (by omega) (by omega) (by omega)
          simp only [Int.toNat_natCast] at cl
          have CL := Lib.hid cl
          have HLEN := Lib.hid hlen
          have HBEL := Lib.hid hbel
          clear hcell hblk hr cl hmul hown hlen hbel HS1
          generalize dig xs i = x at *
          generalize dig ys k = y at *
          generalize dig zs (i + k) = z at *
          have j1 : (↑i + ↑k : Int) < ↑xs.length + ↑ys.length + 1 := by omega
          have j2 : (0 : Int) ≤ ↑i + ↑k := by omega
          have j3 : ((i : Int) + (k : Int)).toNat = i + k := by omega
          have v1 : IntKind.i64.wrap ((i : Int) + (k : Int)) = (i : Int) + (k : Int) := IntWalk.i64_in _ (by omega)
          have v2 : IntKind.i64.wrap (x * y) = x * y := IntWalk.i64_in _ (by omega)
          have v3 : IntKind.i64.wrap (z + x * y) = z + x * y := IntWalk.i64_in _ (by omega)
          have v4 : IntKind.i64.wrap (C + (z + x * y)) = C + (z + x * y) := IntWalk.i64_in _ (by omega)
          rcases Nat.lt_or_ge k ys.length with hky | hky
          · go_wp2_with fail
            go_quiet ((go_at_call 53; exact quiet_left (CL.out _)))
            clear v2 v3 v4
            go_wp2_with fail
            go_roundw
            case rel => exact ⟨k + 1, _, _, by omega, rfl, by go_num, hset.out _ _, hst.out, (below_drewN HBEL.out _).setCell (Nat.le_refl _) _⟩
            case measure => simp [intOf]; omega
          · go_wp2_with fail
            go_quiet ((go_at_call 53; exact quiet_left (CL.out _)))
            clear v2 v3 v4
            go_wp2_with fail
            go_roundw
            case rel => exact ⟨k + 1, _, _, by omega, rfl, by go_num, hset.out _ _, hst.out, (below_drewN HBEL.out _).setCell (Nat.le_refl _) _⟩
            case measure => simp [intOf]; omega
        · have hC : C = 0 := by omega
          subst hC
          have hnx := Lib.hid (hmul.next (by omega))
          have HOWN := Lib.hid hown
          have HBEL := Lib.hid hbel
          have hky : ys.length ≤ k := by omega
          clear hmul hown hbel HS1 hgo
          go_wp2_with fail
          go_roundw
          case rel => exact ⟨i + 1, _, by omega, by go_num, HOWN.out, hnx.out, HBEL.out⟩
          case measure => simp [intOf]; omega
    · obtain rfl : i = xs.length := by omega
      have hv := hmul.ends
      have hlen := hmul.len
      have cm := made_any (s != t) _ zs wr (OwnL.row hown hmul.digs) (by omega)
      rw [hv, hlen] at cm
      have CM := Lib.hid cm
      have HLEN := Lib.hid hlen
      have HBEL := Lib.hid hbel
      clear cm hv hlen hmul hown hbel
      go_wp2_with fail
      refine (CM.out).mono ?_; rintro e w2 ⟨r, rfl, hr, hb2⟩
      have hp1 : Below W.heap.size W wr := by rw [HG.out]; exact HBEL.out
      have HS2 := HS.keep (HG.out.trans HZ.out) (hp1.trans (hb2.mono hp1.size))
      obtain ⟨m1, m2, m3, m4, m5, m6, m7, m8⟩ := HS
      obtain ⟨i1, i2, i3, i4, i5, i6, i7, i8⟩ := HS2
      obtain ⟨b2, A2, n2, c2, rfl, ho, hfin⟩ := two_done HBW.out (HG.out.trans HZ.out) m5 m6 hp1 hb2 hr
      go_wp2_with fail
      exact bodyPost_ret (v := .agg #[.bool b2, .slice A2 n2 c2]) (by simp [results, Try.results42, go_sem, i5, i6]) rfl hfin
end Go.Proofs.Ytmafkknnekkcdaa
