/- A quotient of whole numbers, walked: bit by bit; the divisor is above 0. -/
import Derived.Test.YtmafkknnekkcdaaRefD
import Derived.Test.YtmafkknnekkcdaaRefO
import Derived.Test.YtmafkknnekkcdaaLimbs3
namespace Go.Proofs.Ytmafkknnekkcdaa
open Go.RowKit

/-- A row of the one limb 1, just written out. -/
theorem one_row (w : World) : NatV (w.alloc (.cells #[.int .i64 1] 3)) (.slice (some ⟨w.heap.size, 0, none⟩) 1 1) 1 := by
  refine ⟨[1], ⟨?_, fun d hd => by simp at hd; omega⟩, fun _ => by decide, by decide⟩
  have h := Lst.new (k := .i64) (zs := [1]) w 3 #[.int .i64 1] rfl
  rwa [← World.size_alloc w (.cells #[.int .i64 1] 3)] at h
theorem nil_row (w : World) : NatV (w.alloc (.cells #[] 3)) (.slice (some ⟨w.heap.size, 0, none⟩) 0 0) 0 :=
  ⟨[], OwnL.row (OwnL.empty w w.heap.size (Nat.le_refl _)) Digs.nil, fun h => absurd h (by simp), rfl⟩
theorem NatB.undrew {w : World} {B n : Nat} {v : Value} {m : Int} (h : NatB (w.drewN n) B v m) : NatB w B v m := h
theorem pow_up {a : Int} {L : Nat} (h : a < 65536 ^ L) (h0 : 0 ≤ a) : a + a + 1 < 65536 ^ (L + 1) := by
  rw [pow_succ']; omega
theorem pow_up' {a : Int} {L : Nat} (h : a < 65536 ^ L) : a < 65536 ^ (L + 1) := by
  have := pow_le (Nat.le_succ L); omega

/-- A quotient that is rounded away from zero if so asked. -/
def awayQ (m n : Int) (s up : Bool) : Int := if (m % n != 0) && (up != s) then m / n + 1 else m / n
/-- A number, in a world that has grown. -/
def Rest (wo : World) (m : Int) (r : Value) (wx : World) : Prop := NatV wx r m ∧ Below wo.heap.size wo wx

set_option maxRecDepth 100000 in
set_option maxHeartbeats 4000000 in
theorem div_rows (s t up : Bool) (A A' : Option Addr) (c c' n' : Nat) (xs : List Int) (n : Int) (w : World) (L : Nat) (ha : RowV w (.slice A xs.length c) xs) (hb : NatV w (.slice A' n' c') n) (lx : xs.length ≤ 1000)
    (hm : val xs < 65536 ^ L) (hn : 0 < n) (hnL : n < 65536 ^ L) (hL : L ≤ 1000) :
    Calls Try.prog 40 #[.agg #[.bool s, .slice A xs.length c], .agg #[.bool t, .slice A' n' c'], .bool up] w
      (GivesN w (sided s (awayQ (val xs) n s up))) := by
  have hbw := below_two w s (.slice A xs.length c) t (.slice A' n' c')
  have HA := Lib.hid (ha.below hbw)
  have HB := Lib.hid (hb.below hbw)
  have HS := six_two w s (.slice A xs.length c) t (.slice A' n' c')
  have HZ := Lib.hid (two_size w s (.slice A xs.length c) t (.slice A' n' c'))
  have HBW := Lib.hid hbw
  have DX := Lib.hid ha.2
  have hm0 := ha.2.bd.1
  clear ha hb hbw
  go_enter Try.func40, Try.ntmps40
  go_upto_region 1 with fail
  change Code.wp _ _ _ _ (two w s (Value.slice A xs.length c) t (Value.slice A' n' c'))
  generalize two w s (Value.slice A xs.length c) t (Value.slice A' n' c') = W at *
  go_upto_region 3 with fail
  obtain ⟨k1, k2, k3, k4, k5, k6, f0, f1⟩ := HS.keep HZ.out ((below_new W (.cells #[] 3)).alloc (by simp) (.cells #[] 3))
  go_wp2_with fail
  clear k1 k2 k3 k4 k5 k6 f0 f1
  go_loopw [7, 8, 9] (fun q r i wr => ∃ (j : Nat) (Q R : Int), j ≤ 16 * xs.length ∧ i = .int .i64 ((j : Int) - 1) ∧ NatV wr q Q ∧ NatV wr r R ∧ Dividing (val xs) n j Q R ∧ Below W.heap.size W wr) (fun _ _ i _ => (intOf i + 1).toNat)
  case atStart =>
    have hlt : val xs < 2 ^ (16 * xs.length) := by rw [pow16]; exact DX.out.bd.2
    exact ⟨16 * xs.length, 0, 0, Nat.le_refl _, by go_num, (nil_row W).below (below_new _ _), by simpa using nil_row (W.alloc (.cells #[] 3)), Dividing.start hm0 hlt, (below_new _ _).alloc (by simp) _⟩
  case round =>
    obtain ⟨j, Q, R, hj, rfl, hq, hr, hdiv, hbel⟩ := hrel
    have hbd := hdiv.bd hm0 hn
    have hQL : Q < 65536 ^ L := by omega
    have hRL : R < 65536 ^ L := by omega
    have hR0 : 0 ≤ R := hbd.2.2.1
    have hQ0 : 0 ≤ Q := hbd.1
    have hRn : R < n := hbd.2.2.2
    have HQL := Lib.hid hQL
    have HRL := Lib.hid hRL
    clear hbd
    have HS1 := HS.keep HZ.out hbel
    obtain ⟨k1, k2, k3, k4, k5, k6, f0, f1⟩ := id HS1
    by_cases hj0 : j = 0
    · subst hj0
      obtain ⟨eq, er⟩ := hdiv.ends
      obtain ⟨ys, hy, hyn, hv⟩ := hr
      obtain ⟨A1, c1, rfl⟩ := hy.1.len
      have hz := hyn.zero hy.2
      rw [hv] at hz
      have ez : ((0 : Nat) : Int) - 1 = -1 := rfl
      rw [ez]
      have Hq := Lib.hid hq
      clear hy hyn hv hdiv hq
      by_cases hR : R = 0
      · have hys := hz.1 hR
        subst hys
        have HQ : Hid (sided s Q = sided s (awayQ (val xs) n s up)) := Lib.hid (by rw [awayQ, ← er, hR, eq]; simp)
        have CM := Lib.hid (made_nat s _ Q wr L Hq.out HQL.out (by omega))
        clear hz eq er hR
        go_wp2_with fail
        refine (CM.out).mono ?_; rintro e w2 ⟨r, rfl, hr2, hb2⟩
        have HS2 := HS.keep HZ.out (hbel.trans (hb2.mono hbel.size))
        obtain ⟨m1, m2, m3, m4, m5, m6, m7, m8⟩ := HS
        obtain ⟨i1, i2, i3, i4, i5, i6, i7, i8⟩ := HS2
        obtain ⟨b2, A2, n2, c2, rfl, ho, hfin⟩ := two_done HBW.out HZ.out m5 m6 hbel hb2 hr2
        clear m1 m2 m3 m4 m5 m6 m7 m8
        go_wp2_with fail
        exact bodyPost_ret (v := .agg #[.bool b2, .slice A2 n2 c2]) (by simp [results, Try.results40, go_sem, i5, i6]) rfl (by rw [HQ.out] at hfin; exact hfin)
      · have hyl : 0 < ys.length := List.length_pos_iff.2 (fun k => hR (hz.2 k))
        have hR' : (val xs % n != 0) = true := by rw [← er, bne_iff_ne]; exact hR
        by_cases hu : up = s
        · subst hu
          have HQ : Hid (sided up Q = sided up (awayQ (val xs) n up up)) := Lib.hid (by rw [awayQ, eq]; simp)
          have CM := Lib.hid (made_nat up _ Q wr L Hq.out HQL.out (by omega))
          clear hz eq er hR hR'
          go_wp2_with fail
          refine (CM.out).mono ?_; rintro e w2 ⟨r, rfl, hr2, hb2⟩
          have HS2 := HS.keep HZ.out (hbel.trans (hb2.mono hbel.size))
          obtain ⟨m1, m2, m3, m4, m5, m6, m7, m8⟩ := HS
          obtain ⟨i1, i2, i3, i4, i5, i6, i7, i8⟩ := HS2
          obtain ⟨b2, A2, n2, c2, rfl, ho, hfin⟩ := two_done HBW.out HZ.out m5 m6 hbel hb2 hr2
          clear m1 m2 m3 m4 m5 m6 m7 m8
          go_wp2_with fail
          exact bodyPost_ret (v := .agg #[.bool b2, .slice A2 n2 c2]) (by simp [results, Try.results40, go_sem, i5, i6]) rfl (by rw [HQ.out] at hfin; exact hfin)
        · have hu' : (up == s) = false := by simpa using hu
          have hu2 : (up != s) = true := by simpa using hu
          have HQ : Hid (sided s (Q + 1) = sided s (awayQ (val xs) n s up)) := Lib.hid (by rw [awayQ, hR', hu2, eq]; simp)
          have hQ1 : Q + 1 < 65536 ^ (L + 1) := by have := pow_up HQL.out hQ0; omega
          have h1L : (1 : Int) < 65536 ^ L := by have := HQL.out; have := HRL.out; omega
          have CP := Lib.hid (plus_any _ _ Q 1 _ L (Hq.out.below (below_new wr (.cells #[.int .i64 1] 3))) (one_row wr) HQL.out h1L (by omega))
          clear hz eq er hR hR' hu2
          go_wp2_with fail
          refine (CP.out).mono ?_; rintro e w1 ⟨q1, rfl, hq1, hb1⟩
          have hbel0 := hbel
          have hb3 := (below_new wr (.cells #[.int .i64 1] 3)).trans (hb1.mono (by simp))
          clear hbel
          have hbel := hbel0.trans (hb3.mono hbel0.size)
          clear k1 k2 k3 k4 k5 k6 f0 f1 HS1
          have HS1 := HS.keep HZ.out hbel
          obtain ⟨k1, k2, k3, k4, k5, k6, f0, f1⟩ := id HS1
          have CM := Lib.hid (made_nat s _ (Q + 1) w1 (L + 1) hq1 hQ1 (by omega))
          go_wp2_with fail
          refine (CM.out).mono ?_; rintro e w2 ⟨r, rfl, hr2, hb2⟩
          have HS2 := HS.keep HZ.out (hbel.trans (hb2.mono hbel.size))
          obtain ⟨m1, m2, m3, m4, m5, m6, m7, m8⟩ := HS
          obtain ⟨i1, i2, i3, i4, i5, i6, i7, i8⟩ := HS2
          obtain ⟨b2, A2, n2, c2, rfl, ho, hfin⟩ := two_done HBW.out HZ.out m5 m6 hbel hb2 hr2
          clear m1 m2 m3 m4 m5 m6 m7 m8
          go_wp2_with fail
          exact bodyPost_ret (v := .agg #[.bool b2, .slice A2 n2 c2]) (by simp [results, Try.results40, go_sem, i5, i6]) rfl (by rw [HQ.out] at hfin; exact hfin)
    · obtain ⟨i, rfl⟩ : ∃ i, j = i + 1 := ⟨j - 1, by omega⟩
      have ei : ((i + 1 : Nat) : Int) - 1 = i := by omega
      rw [ei]
      clear ei hj0
      have CP := Lib.hid (plus_any _ _ R R wr L hr hr HRL.out HRL.out (by omega))
      go_wp2_with fail
      refine (CP.out).mono ?_; rintro e w1 ⟨r1, rfl, hr1, hb1⟩
      have hp1 := hbel.trans (hb1.mono hbel.size)
      have HS2 := HS.keep HZ.out hp1
      clear k1 k2 k3 k4 k5 k6 f0 f1 HS1 CP
      obtain ⟨k1, k2, k3, k4, k5, k6, f0, f1⟩ := id HS2
      have hti : i / 16 < xs.length := by omega
      have hbit := bit_at DX.out hti
      obtain ⟨⟨A0, c0, e, hc, hcells⟩, -⟩ := HA.out
      injection e with e1 e2 e3
      subst e1; subst e3
      obtain ⟨ad, rfl, hblk, hcell⟩ := hcells (by omega)
      have ac := (hp1.cell (p := ad.add (i / 16)) (by rw [block_of_add]; exact hblk)).trans (hcell (i / 16) hti)
      rw [← dig_at hti] at ac
      have dx := DX.out.at_ (i / 16)
      have q1 : (i : Int) / 16 = ((i / 16 : Nat) : Int) := by omega
      have q2 : (i : Int) % 16 = ((i % 16 : Nat) : Int) := by omega
      have hui : i % 16 < 16 := by omega
      have he0 : 0 ≤ dig xs (i / 16) / 2 ^ (i % 16) := Int.ediv_nonneg dx.1 (Int.le_of_lt (Int.pow_pos (by omega)))
      have Hq := Lib.hid hq
      have HDIV := Lib.hid hdiv
      clear hcell hblk hcells hdiv hq
      generalize hb : val xs / 2 ^ i % 2 = b at *
      have HBIT := Lib.hid hb
      clear hb
      generalize dig xs (i / 16) = d at *
      generalize i / 16 = ti at *
      generalize i % 16 = ui at *
      have hmin : min ui 64 = ui := by omega
      generalize hE : d / 2 ^ ui = E at *
      have hE2 : E % 2 = b := hbit.symm
      have hb01 : b = 0 ∨ b = 1 := by omega
      clear hbit
      have hRR : R + R < 65536 ^ (L + 1) := by have := pow_up HRL.out hR0; omega
      have h1L : (1 : Int) < 65536 ^ (L + 1) := by have := pow_pos L; rw [pow_succ']; omega
      go_upto_if 35 with fail
      clear hE hE2 q1 q2 ac dx hmin k1 k2 k3 k4 k5 k6 f0 f1
      go_cut [8] (fun r2 wx => Rest w1 (R + R + b) r2 wx)
      case first =>
        rcases hb01 with rfl | rfl
        · go_wp2_with fail
          go_meet
          exact ⟨by rw [Int.add_zero]; exact hr1, Below.refl _ _⟩
        · have CP2 := Lib.hid (plus_any _ _ (R + R) 1 _ (L + 1) (hr1.below (below_new _ (.cells #[.int .i64 1] 3))) (one_row w1) hRR h1L (by omega))
          go_wp2_with fail
          refine (CP2.out).mono ?_; rintro e w2 ⟨r2, rfl, hr2, hb2⟩
          go_wp2_with fail
          go_meet
          exact ⟨hr2, (below_new _ _).trans (hb2.mono (by simp))⟩
      case rest =>
        obtain ⟨hr2, hb2⟩ := hcut
        have hw2 := hb1.trans (hb2.mono hb1.size)
        have hp2 := hbel.trans (hw2.mono hbel.size)
        have CQ := Lib.hid (plus_any _ _ Q Q _ L (Hq.out.below hw2) (Hq.out.below hw2) HQL.out HQL.out (by omega))
        have hQQ : Q + Q < 65536 ^ (L + 1) := by have := pow_up HQL.out hQ0; omega
        have hT : R + R + b < 65536 ^ (L + 1) := by have := pow_up HRL.out hR0; omega
        have hnL1 := pow_up' hnL
        go_wp2_with fail
        refine (CQ.out).mono ?_; rintro e w3 ⟨q3, rfl, hq3, hb3⟩
        have hp3 := hp2.trans (hb3.mono hp2.size)
        have hr3 := hr2.below hb3
        have hc3 := HB.out.keep (fun _ hp => hp3.cell hp) hp3.size
        have HS3 := HS.keep HZ.out hp3
        have CA := Lib.hid (above_any _ _ (R + R + b) n w3 (L + 1) hr3 hc3 hT hnL1 (by omega))
        obtain ⟨k1, k2, k3, k4, k5, k6, f0, f1⟩ := id HS3
        by_cases hge : n ≤ R + R + b
        · have hcmp : 0 ≤ cmpI (R + R + b) n := by unfold cmpI; split; omega; rw [if_neg (by omega)]; omega
          have hst := Lib.hid (HDIV.out.high hn (by rw [HBIT.out]; exact hge))
          have CM := Lib.hid (minus_any _ _ (R + R + b) n w3 (L + 1) hr3 hc3 hT hge (by omega))
          rw [HBIT.out] at hst
          go_wp2_with fail
          refine (CA.out).mono ?_; rintro e w' ⟨rfl, rfl⟩
          go_wp2_with fail
          refine (CM.out).mono ?_; rintro e w4 ⟨r4, rfl, hr4, hb4⟩
          have hq4 := hq3.below hb4
          have CP3 := Lib.hid (plus_any _ _ (Q + Q) 1 _ (L + 1) (hq4.below (below_new _ (.cells #[.int .i64 1] 3))) (one_row w4) hQQ h1L (by omega))
          clear k1 k2 k3 k4 k5 k6 f0 f1
          go_wp2_with fail
          refine (CP3.out).mono ?_; rintro e w5 ⟨q5, rfl, hq5, hb5⟩
          have hb6 := (below_new w4 (.cells #[.int .i64 1] 3)).trans (hb5.mono (by simp))
          have hr5 := hr4.below hb6
          have hp5 := hp3.trans (hb4.mono hp3.size)
          have hp6 := hp5.trans (hb6.mono hp5.size)
          go_wp2_with fail
          go_roundw
          case rel => exact ⟨i, _, _, by omega, by go_num, hq5, hr5, hst.out, hp6⟩
          case measure => simp [intOf]
        · have hcmp : cmpI (R + R + b) n < 0 := by unfold cmpI; rw [if_neg (by omega), if_pos (by omega)]; omega
          have hst := Lib.hid (HDIV.out.low hn (by rw [HBIT.out]; omega))
          rw [HBIT.out] at hst
          go_wp2_with fail
          refine (CA.out).mono ?_; rintro e w' ⟨rfl, rfl⟩
          go_wp2_with fail
          go_roundw
          case rel => exact ⟨i, _, _, by omega, by go_num, hq3, hr3, hst.out, hp3⟩
          case measure => simp [intOf]
end Go.Proofs.Ytmafkknnekkcdaa
