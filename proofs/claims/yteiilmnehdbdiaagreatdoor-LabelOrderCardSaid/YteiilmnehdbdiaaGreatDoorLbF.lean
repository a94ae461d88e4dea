/- Package label: the bytes of a series, walked. -/
import Derived.Test.YteiilmnehdbdiaaGreatDoorLbE
import Derived.Test.YteiilmnehdbdiaaGreatDoorLabY
import Derived.Test.YteiilmnehdbdiaaGreatDoorCodE
import Derived.Deep.CutBlock
import Derived.Deep.DeepCutAuto
namespace Go.Proofs.YteiilmnehdbdiaaGreatDoor
open Go.RowKit

theorem lstS_at (V : World) (t : TypeId) (ss : List ByteArray) (g : Nat) (hg : Hid (g = V.heap.size)) : LstS (V.alloc (.cells (ss.map Value.string).toArray t)) (V.alloc (.cells (ss.map Value.string).toArray t)).heap.size (.slice (some ⟨g, 0, none⟩) ss.length ss.length) ss := by
  have := hg.out; subst this
  refine ⟨_, _, rfl, Nat.le_refl _, fun _ => ⟨_, rfl, by rw [World.size_alloc]; exact Nat.lt_succ_self _, fun j hj => ?_⟩⟩
  rw [show (Addr.mk V.heap.size 0 none).add j = ⟨V.heap.size, j, none⟩ by unfold Addr.add; split <;> simp_all, World.cell?_alloc_new]
  simp [hj]
theorem lst_at (V : World) (t : TypeId) (k : IntKind) (z : Int) (g : Nat) (hg : Hid (g = V.heap.size)) : Lst (V.alloc (.cells #[.int k z] t)) (V.alloc (.cells #[.int k z] t)).heap.size k (.slice (some ⟨g, 0, none⟩) 1 1) [z] := by
  have := hg.out; subst this
  refine ⟨_, _, rfl, Nat.le_refl _, fun _ => ⟨_, rfl, by rw [World.size_alloc]; exact Nat.lt_succ_self _, fun j hj => ?_⟩⟩
  obtain rfl : j = 0 := by simp at hj; exact hj
  exact one_val V (.int k z) t 0 _ rfl
theorem texts_one (a : ByteArray) : textsL [a] = txtL a := by simp [textsL]
theorem texts_two (a b : ByteArray) : textsL [a, b] = txtL a ++ txtL b := by simp [textsL]
theorem uints_one (n : Nat) : uintsL [(n : Int)] = lebL n := by simp [uintsL]

set_option maxRecDepth 100000 in
set_option maxHeartbeats 4000000 in
theorem bytes8_any (n : ByteArray) (u : Value) (x : List Lab) (w : World) (hx : Labs w w.heap.size u x) (hn : n.size ≤ 1000000) (hl : x.length ≤ 1000000) (hz : ∀ l ∈ x, l.1.size ≤ 1000000 ∧ l.2.size ≤ 1000000) :
    Calls Tryz.prog 19 #[.agg #[.string n, u]] w (Copied 5 .u8 w (bytesI n x)) := by
  obtain ⟨ib, hi, hz0, hz1, hz2⟩ := info_parts byte_info
  obtain ⟨A0, c0, rfl⟩ := hx.len
  have hW : Below w.heap.size w (w.alloc (.cells #[.string n, .slice A0 x.length c0] 24)) := grew1 w _
  have aS := At2.new w (.string n) (.slice A0 x.length c0) 24
  have LX := hx.below hW
  have CR := Lib.hid (right8_any n _ x _ ((hx.below hW).more hW.size) hn hl hz)
  have hsz : w.heap.size + 1 ≤ (w.alloc (.cells #[.string n, .slice A0 x.length c0] 24)).heap.size := by simp
  clear hx hz
  obtain ⟨a0, a1, -, -⟩ := id aS
  by_cases hr : IsRight n x
  case neg =>
    have hE : Hid (bytesI n x = []) := Lib.hid (if_neg hr)
    rw [decide_eq_false hr] at CR
    clear hr
    go_enter Tryz.func19, Tryz.ntmps19
    go_wp2_with fail
    refine (CR.out).mono ?_; rintro e w1 ⟨rfl, h⟩
    have hB := hW.trans (h.mono hW.size)
    go_wp2_with fail
    go_ret
    exact ⟨_, rfl, by rw [hE.out]; exact ⟨rfl, .inl ⟨rfl, rfl⟩⟩, hB⟩
  have hE : Hid (bytesI n x = txtL n ++ (lebL x.length ++ labsL x)) := Lib.hid (if_pos hr)
  have hx8 : x.length ≤ 8 := hr.2.1
  have hn64 : n.size ≤ 64 := hr.1.2.1
  have HLS : Hid (∀ l ∈ x, l.1.size ≤ 64 ∧ l.2.size ≤ 64) := Lib.hid fun l hl => ⟨(hr.2.2.1 l hl).1.2.1, (hr.2.2.1 l hl).2.1⟩
  rw [decide_eq_true hr] at CR
  clear hr
  go_enter Tryz.func19, Tryz.ntmps19
  go_wp2_with fail
  refine (CR.out).mono ?_; rintro e w1 ⟨rfl, h⟩
  have hB := hW.trans (h.mono hW.size)
  replace aS := aS.below h
  replace LX := LX.below (h.mono hW.size)
  replace hsz := Nat.le_trans hsz h.size
  clear h a0 a1 hW CR
  obtain ⟨a0, a1, -, -⟩ := id aS
  go_wp2_with fail
  have hT := txtL_len n (by omega)
  have hU := leb_ten (n := x.length) (by omega)
  have CT : Hid (∀ W u, LstS W W.heap.size u [n] → Calls Tryz.prog 43 #[u] W (Copied 5 .u8 W (txtL n))) := Lib.hid fun W u h => by
    have := texts6_any u [n] W h (fun s hs => by obtain rfl := List.mem_singleton.1 hs; omega) (by simp)
    rw [texts_one] at this
    exact this
  have CU : Hid (∀ W u, Lst W W.heap.size .u64 u [(x.length : Int)] → Calls Tryz.prog 44 #[u] W (Copied 5 .u8 W (lebL x.length))) := Lib.hid fun W u h => by
    have := uints6_any u [(x.length : Int)] W h (fun s hs => by obtain rfl := List.mem_singleton.1 hs; omega) (by simp)
    rw [uints_one] at this
    exact this
  have hwl : IntKind.u64.wrap (x.length : Int) = (x.length : Int) := by rw [IntKind.wrap_u64]; omega
  replace aS := aS.drew
  replace hB := ext_drew hB
  replace hsz : w.heap.size + 1 ≤ w1.drew.heap.size := hsz
  replace LX : Labs w1.drew w.heap.size (.slice A0 x.length c0) x := LX.keep fun p hp => rfl
  clear a0 a1
  refine wp_region_held_drew (S := fun w' => w'.cell? ⟨w.heap.size, 0, none⟩ = some (.string n) ∧ w'.cell? ⟨w.heap.size, 1, none⟩ = some (.slice A0 x.length c0)) (by kernel_rfl) ?_ (fun hHeld => ?_)
  · exact ⟨aS.c0, aS.c1⟩
  generalize w1.drew = v0 at *
  refine take_at (i := 0) (d := some 9) (v := ?_) rfl rfl (by kernel_rfl) (by kernel_rfl) (by kernel_rfl) (fun _ _ _ h => h) (Or.inl ⟨by rfl, ?hyb1⟩) (by assumption) ?restb1
  case hyb1 => (intro w hSw; (try dsimp only at hSw); go_simp; try with_reducible rfl)
  (try simp only [Act.put]); (try simp only [List.setIfInBounds_toArray]); (try simp only [List.set_cons_succ]); (try simp only [List.set_cons_zero])
  refine take_at (i := 1) (d := some 10) (v := ?_) rfl rfl (by kernel_rfl) (by kernel_rfl) (by kernel_rfl) (fun _ _ _ h => h) (Or.inl ⟨by rfl, ?hyb2⟩) (by assumption) ?restb2
  case hyb2 => (intro w hSw; (try dsimp only at hSw); go_simp; try with_reducible rfl)
  (try simp only [Act.put]); (try simp only [List.setIfInBounds_toArray]); (try simp only [List.set_cons_succ]); (try simp only [List.set_cons_zero])
  refine take_at (i := 4) (d := some 13) (v := ?_) rfl rfl (by kernel_rfl) (by kernel_rfl) (by kernel_rfl) (fun _ _ _ h => h) (Or.inl ⟨by rfl, ?hyb3⟩) (by assumption) ?restb3
  case hyb3 => (intro w hSw; (try dsimp only at hSw); go_simp; try with_reducible rfl)
  (try simp only [Act.put]); (try simp only [List.setIfInBounds_toArray]); (try simp only [List.set_cons_succ]); (try simp only [List.set_cons_zero])
  refine take_at (i := 5) (d := some 14) (v := ?_) rfl rfl (by kernel_rfl) (by kernel_rfl) (by kernel_rfl) (fun _ _ _ h => h) (Or.inl ⟨by rfl, ?hyb4⟩) (by assumption) ?restb4
  case hyb4 => (intro w hSw; (try dsimp only at hSw); go_simp; try with_reducible rfl)
  (try simp only [Act.put]); (try simp only [List.setIfInBounds_toArray]); (try simp only [List.set_cons_succ]); (try simp only [List.set_cons_zero])
  refine take_at (i := 6) (d := some 15) (v := ?_) rfl rfl (by kernel_rfl) (by kernel_rfl) (by kernel_rfl) (fun _ _ _ h => h) (Or.inl ⟨by rfl, ?hyb5⟩) (by assumption) ?restb5
  case hyb5 => (intro w hSw; (try dsimp only at hSw); go_simp; try with_reducible rfl)
  (try simp only [Act.put]); (try simp only [List.setIfInBounds_toArray]); (try simp only [List.set_cons_succ]); (try simp only [List.set_cons_zero])
  refine take_at (i := 7) (d := some 16) (v := ?_) rfl rfl (by kernel_rfl) (by kernel_rfl) (by kernel_rfl) (fun _ _ _ h => h) (Or.inl ⟨by rfl, ?hyb6⟩) (by assumption) ?restb6
  case hyb6 => (intro w hSw; (try dsimp only at hSw); go_simp; try with_reducible rfl)
  (try simp only [Act.put]); (try simp only [List.setIfInBounds_toArray]); (try simp only [List.set_cons_succ]); (try simp only [List.set_cons_zero])
  refine wpAnyH_ready (rs := [2, 8]) (by kernel_rfl) (by simp) ?_
  refine AllReadyH.cons rfl (fun K hK => ?_) (AllReadyH.cons rfl (fun K hK => ?_) AllReadyH.nil)
  · go_simp
    have hq := below_new v0 (.cells #[.string n] 9)
    have LN := lstS_at v0 9 [n] v0.heap.size (Lib.hid rfl)
    change LstS (v0.alloc (.cells #[.string n] 9)) (v0.alloc (.cells #[.string n] 9)).heap.size (.slice (some ⟨v0.heap.size, 0, none⟩) 1 1) [n] at LN
    generalize v0.alloc (.cells #[.string n] 9) = v1 at *
    replace aS := aS.below hq
    replace LX := LX.below (hq.mono (by omega))
    replace hB := hB.trans (hq.mono (by omega))
    replace hsz := Nat.le_trans hsz hq.size
    clear hq
    refine hK.out _ _ ?_ (fun hHeld => ?_)
    · exact ⟨aS.c0, aS.c1⟩
    clear hK K
    (try simp only [Act.put]); (try simp only [List.setIfInBounds_toArray]); (try simp only [List.set_cons_succ]); (try simp only [List.set_cons_zero])
    refine wpAnyH_ready (rs := [3, 8]) (by kernel_rfl) (by simp) ?_
    refine AllReadyH.cons rfl (fun K hK => ?_) (AllReadyH.cons rfl (fun K hK => ?_) AllReadyH.nil)
    · go_simp
      refine (CT.out _ _ LN).mono ?_
      rintro e2 v2 ⟨y, rfl, OT, hq⟩
      obtain ⟨Ay, cy, rfl⟩ := OT.val
      replace OT := OT.less hsz
      replace aS := aS.below hq
      replace LX := LX.below (hq.mono (by omega))
      replace hB := hB.trans (hq.mono (by omega))
      replace LN := (LN.below hq).more hq.size
      replace hsz := Nat.le_trans hsz hq.size
      clear hq LN
      try go_wp2_with fail
      refine hK.out _ _ ?_ (fun hHeld => ?_)
      · exact ⟨aS.c0, aS.c1⟩
      clear hK K
      (try simp only [Act.put]); (try simp only [List.setIfInBounds_toArray]); (try simp only [List.set_cons_succ]); (try simp only [List.set_cons_zero])
      refine wpAnyH_ready (rs := [8]) (by kernel_rfl) (by simp) ?_
      refine AllReadyH.cons rfl (fun K hK => ?_) AllReadyH.nil
      go_simp
      have hq := below_new v2 (.cells #[.int .u64 x.length] 83)
      have LU := lst_at v2 83 .u64 x.length v2.heap.size (Lib.hid rfl)
      generalize v2.alloc (.cells #[.int .u64 x.length] 83) = v3 at *
      replace aS := aS.below hq
      replace LX := LX.below (hq.mono (by omega))
      replace hB := hB.trans (hq.mono (by omega))
      replace OT := OT.keep hq
      replace hsz := Nat.le_trans hsz hq.size
      clear hq
      refine hK.out _ _ ?_ (fun hHeld => ?_)
      · exact ⟨aS.c0, aS.c1⟩
      clear hK K
      (try simp only [Act.put]); (try simp only [List.setIfInBounds_toArray]); (try simp only [List.set_cons_succ]); (try simp only [List.set_cons_zero])
      refine wpAnyH_ready (rs := [9]) (by kernel_rfl) (by simp) ?_
      refine AllReadyH.cons rfl (fun K hK => ?_) AllReadyH.nil
      go_simp
      refine (CU.out _ _ LU).mono ?_
      rintro e3 v4 ⟨z, rfl, OU, hq⟩
      obtain ⟨Az, cz, rfl⟩ := OU.val
      replace aS := aS.below hq
      replace LX := LX.below (hq.mono (by omega))
      replace hB := hB.trans (hq.mono (by omega))
      replace OT := OT.keep hq
      replace hsz := Nat.le_trans hsz hq.size
      clear hq LU
      try go_wp2_with fail
      refine hK.out _ _ ?_ (fun hHeld => ?_)
      · exact ⟨aS.c0, aS.c1⟩
      clear hK K
      (try simp only [Act.put]); (try simp only [List.setIfInBounds_toArray]); (try simp only [List.set_cons_succ]); (try simp only [List.set_cons_zero])
      refine wpAnyH_ready (rs := [10]) (by kernel_rfl) (by simp) ?_
      refine AllReadyH.cons rfl (fun K hK => ?_) AllReadyH.nil
      refine step_append_src _ rfl (.tmp 12) (.tmp 18) 41 rfl (w.heap.size + 1) 5 ib (.int .u8 0) Tryz.underlying41 hi hz0 hz1 1 hz2 rfl _ (txtL n).length ((txtL n).map (Value.int .u8)) rfl OT Az cz (lebL x.length) rfl (OU.src_ (Below.refl _ _)) (by unfold maxLen; omega) (by omega) hsz ?_
      intro r5 v5 hown4 hgrow4
      obtain ⟨hO4, hq4⟩ := OT.join (ys := lebL x.length) hsz hown4 hgrow4
      replace aS := aS.low hq4 (by omega)
      replace LX := LX.below (hq4.mono (by omega))
      replace hB := hB.trans (hq4.mono (Nat.le_succ _))
      replace hsz := Nat.le_trans hsz hq4.size
      clear OT OU hown4 hgrow4 hq4
      refine hK.out _ _ ?_ (fun hHeld => ?_)
      · exact ⟨aS.c0, aS.c1⟩
      clear hK K
      (try simp only [Act.put]); (try simp only [List.setIfInBounds_toArray]); (try simp only [List.set_cons_succ]); (try simp only [List.set_cons_zero])
      refine take_at (i := 11) (d := some 3) (v := ?_) rfl rfl (by kernel_rfl) (by kernel_rfl) (by kernel_rfl) (fun _ _ _ h => h) (Or.inl ⟨by rfl, ?hyb7⟩) (by assumption) ?restb7
      case hyb7 => (intro w hSw; (try dsimp only at hSw); go_simp; try with_reducible rfl)
      (try simp only [Act.put]); (try simp only [List.setIfInBounds_toArray]); (try simp only [List.set_cons_succ]); (try simp only [List.set_cons_zero])
      refine wpAnyH_done (by kernel_rfl) ?_ _
      clear hwl CT CU
      go_wp2_with fail
      go_loopw [3, 23] (fun o i wr => ∃ k : Nat, k ≤ x.length ∧ i = .int .i64 k ∧ Owned 5 .u8 wr (w.heap.size + 1) o ((txtL n ++ lebL x.length) ++ labsL (x.take k)) ∧ Labs wr w.heap.size (.slice A0 x.length c0) x ∧ Below w.heap.size w wr ∧ w.heap.size + 1 ≤ wr.heap.size) (fun _ i _ => x.length - (intOf i).toNat)
      case atStart => exact ⟨0, Nat.zero_le _, rfl, by rw [List.take_zero, labsL, List.append_nil]; exact hO4, LX, hB, hsz⟩
      case round =>
        clear hO4 aS LX hB hsz
        obtain ⟨k, hk, rfl, hown, hL, hB, hsz⟩ := hrel
        by_cases hlt : k < x.length
        · obtain ⟨ax, rfl, hbx, hcx⟩ := hL.at_ (by omega)
          have HLX := Lib.hid hL
          obtain ⟨x0, x1⟩ := hcx k hlt
          rw [add_next] at x1
          have j0 : (0 : Int) ≤ (k : Int) := by omega
          have j1 : (k : Int) < (x.length : Int) := by omega
          have HP : Hid ((txtL n ++ lebL x.length) ++ labsL (x.take (k + 1)) = ((txtL n ++ lebL x.length) ++ labsL (x.take k)) ++ (txtL x[k].1 ++ txtL x[k].2)) := Lib.hid (by rw [labsL_next hlt]; simp)
          have hl1 : ((txtL n ++ lebL x.length) ++ labsL (x.take k)).length ≤ 1268 := by
            have h1 := labsL_len (x.take k) fun l hl => HLS.out l (List.mem_of_mem_take hl)
            rw [List.length_take] at h1
            rw [List.length_append, List.length_append]
            omega
          obtain ⟨hp0, hp1⟩ := HLS.out _ (List.getElem_mem hlt)
          clear hcx hL
          generalize x[k].1 = p0 at *
          generalize x[k].2 = p1 at *
          generalize (txtL n ++ lebL x.length) ++ labsL (x.take k) = ys at *
          have hT0 := txtL_len p0 (by omega)
          have hT1 := txtL_len p1 (by omega)
          have hTT : (txtL p0 ++ txtL p1).length ≤ 148 := by rw [List.length_append]; omega
          have C0 : Hid (∀ W u, LstS W W.heap.size u [p0, p1] → Calls Tryz.prog 43 #[u] W (Copied 5 .u8 W (txtL p0 ++ txtL p1))) := Lib.hid fun W u h => by
            have := texts6_any u [p0, p1] W h (fun s hs => by simp at hs; rcases hs with rfl | rfl <;> omega) (by simp)
            rw [texts_two] at this
            exact this
          generalize txtL p0 ++ txtL p1 = zz at *
          obtain ⟨d0, d1, -, -⟩ := At2.new wr (.string p0) (.string p1) 45
          have hG := below_new wr (.cells #[.string p0, .string p1] 45)
          have hs2 := World.size_alloc wr (.cells #[.string p0, .string p1] 45)
          have hownG := hown.grow_ (.cells #[.string p0, .string p1] 45)
          go_upto_region 7 with fail
          generalize wr.alloc (.cells #[.string p0, .string p1] 45) = V at *
          have hG2 := below_new V (.cells #[.string p0, .string p1] 9)
          have LN := lstS_at V 9 [p0, p1] (wr.heap.size + 1) (Lib.hid hs2.symm)
          change LstS (V.alloc (.cells #[.string p0, .string p1] 9)) (V.alloc (.cells #[.string p0, .string p1] 9)).heap.size (.slice (some ⟨wr.heap.size + 1, 0, none⟩) 2 2) [p0, p1] at LN
          have hownH := hownG.grow_ (.cells #[.string p0, .string p1] 9)
          go_wp2_with fail
          generalize V.alloc (.cells #[.string p0, .string p1] 9) = V2 at *
          refine (C0.out _ _ LN).mono ?_; rintro e2 w2 ⟨y, rfl, hO2, hq2⟩
          obtain ⟨Ay, cy, rfl⟩ := hO2.val
          have hown2 := hownH.keep hq2
          have hsV : w.heap.size + 1 ≤ V2.heap.size := Nat.le_trans (Nat.le_trans hsz hG.size) hG2.size
          have hsz2 := Nat.le_trans hsV hq2.size
          go_wp2_with (at_builtin; go_must (refine wpList_append_src _ rfl (.tmp 27) (.tmp 33) 41 rfl (w.heap.size + 1) 5 ib (.int .u8 0) Tryz.underlying41 hi hz0 hz1 1 hz2 rfl _ ys.length (ys.map (Value.int .u8)) rfl hown2 Ay cy zz rfl (hO2.src_ (Below.refl _ _)) (by unfold maxLen; omega) (by omega) hsz2 ?_); intro v4 w4 hown4 hgrow4)
          obtain ⟨hO4, hq4⟩ := hown2.join (ys := zz) hsz2 hown4 hgrow4
          have hqa : Below (w.heap.size + 1) wr w4 := ((hG.mono hsz).trans ((hG2.mono (Nat.le_trans hsz hG.size)).trans (hq2.mono hsV))).trans hq4
          go_roundw
          case rel => exact ⟨k + 1, hlt, by go_num, by rw [HP.out]; exact hO4, HLX.out.below (hqa.mono (by omega)), hB.trans (hqa.mono (by omega)), Nat.le_trans hsz hqa.size⟩
          case measure => simp [intOf]; omega
        · obtain rfl : k = x.length := by omega
          rw [List.take_length, List.append_assoc, ← hE.out] at hown
          have j1 : ¬ (x.length : Int) < (x.length : Int) := by omega
          go_wp2_with fail
          go_ret
          exact ⟨_, rfl, hown.less (by omega), hB⟩
    · go_simp
      have hq := below_new v1 (.cells #[.int .u64 x.length] 83)
      have LU := lst_at v1 83 .u64 x.length v1.heap.size (Lib.hid rfl)
      generalize v1.alloc (.cells #[.int .u64 x.length] 83) = v2 at *
      replace aS := aS.below hq
      replace LX := LX.below (hq.mono (by omega))
      replace hB := hB.trans (hq.mono (by omega))
      replace LN := (LN.below hq).more hq.size
      replace hsz := Nat.le_trans hsz hq.size
      clear hq
      refine hK.out _ _ ?_ (fun hHeld => ?_)
      · exact ⟨aS.c0, aS.c1⟩
      clear hK K
      (try simp only [Act.put]); (try simp only [List.setIfInBounds_toArray]); (try simp only [List.set_cons_succ]); (try simp only [List.set_cons_zero])
      refine wpAnyH_ready (rs := [3]) (by kernel_rfl) (by simp) ?_
      refine AllReadyH.cons rfl (fun K hK => ?_) AllReadyH.nil
      go_simp
      refine (CT.out _ _ LN).mono ?_
      rintro e2 v3 ⟨y, rfl, OT, hq⟩
      obtain ⟨Ay, cy, rfl⟩ := OT.val
      replace OT := OT.less hsz
      replace aS := aS.below hq
      replace LX := LX.below (hq.mono (by omega))
      replace hB := hB.trans (hq.mono (by omega))
      replace LN := (LN.below hq).more hq.size
      replace LU := (LU.below hq).more hq.size
      replace hsz := Nat.le_trans hsz hq.size
      clear hq LN
      try go_wp2_with fail
      refine hK.out _ _ ?_ (fun hHeld => ?_)
      · exact ⟨aS.c0, aS.c1⟩
      clear hK K
      (try simp only [Act.put]); (try simp only [List.setIfInBounds_toArray]); (try simp only [List.set_cons_succ]); (try simp only [List.set_cons_zero])
      refine wpAnyH_ready (rs := [9]) (by kernel_rfl) (by simp) ?_
      refine AllReadyH.cons rfl (fun K hK => ?_) AllReadyH.nil
      go_simp
      refine (CU.out _ _ LU).mono ?_
      rintro e3 v4 ⟨z, rfl, OU, hq⟩
      obtain ⟨Az, cz, rfl⟩ := OU.val
      replace aS := aS.below hq
      replace LX := LX.below (hq.mono (by omega))
      replace hB := hB.trans (hq.mono (by omega))
      replace OT := OT.keep hq
      replace hsz := Nat.le_trans hsz hq.size
      clear hq LU
      try go_wp2_with fail
      refine hK.out _ _ ?_ (fun hHeld => ?_)
      · exact ⟨aS.c0, aS.c1⟩
      clear hK K
      (try simp only [Act.put]); (try simp only [List.setIfInBounds_toArray]); (try simp only [List.set_cons_succ]); (try simp only [List.set_cons_zero])
      refine wpAnyH_ready (rs := [10]) (by kernel_rfl) (by simp) ?_
      refine AllReadyH.cons rfl (fun K hK => ?_) AllReadyH.nil
      refine step_append_src _ rfl (.tmp 12) (.tmp 18) 41 rfl (w.heap.size + 1) 5 ib (.int .u8 0) Tryz.underlying41 hi hz0 hz1 1 hz2 rfl _ (txtL n).length ((txtL n).map (Value.int .u8)) rfl OT Az cz (lebL x.length) rfl (OU.src_ (Below.refl _ _)) (by unfold maxLen; omega) (by omega) hsz ?_
      intro r5 v5 hown4 hgrow4
      obtain ⟨hO4, hq4⟩ := OT.join (ys := lebL x.length) hsz hown4 hgrow4
      replace aS := aS.low hq4 (by omega)
      replace LX := LX.below (hq4.mono (by omega))
      replace hB := hB.trans (hq4.mono (Nat.le_succ _))
      replace hsz := Nat.le_trans hsz hq4.size
      clear OT OU hown4 hgrow4 hq4
      refine hK.out _ _ ?_ (fun hHeld => ?_)
      · exact ⟨aS.c0, aS.c1⟩
      clear hK K
      (try simp only [Act.put]); (try simp only [List.setIfInBounds_toArray]); (try simp only [List.set_cons_succ]); (try simp only [List.set_cons_zero])
      refine take_at (i := 11) (d := some 3) (v := ?_) rfl rfl (by kernel_rfl) (by kernel_rfl) (by kernel_rfl) (fun _ _ _ h => h) (Or.inl ⟨by rfl, ?hyb8⟩) (by assumption) ?restb8
      case hyb8 => (intro w hSw; (try dsimp only at hSw); go_simp; try with_reducible rfl)
      (try simp only [Act.put]); (try simp only [List.setIfInBounds_toArray]); (try simp only [List.set_cons_succ]); (try simp only [List.set_cons_zero])
      refine wpAnyH_done (by kernel_rfl) ?_ _
      clear hwl CT CU
      go_wp2_with fail
      go_loopw [3, 23] (fun o i wr => ∃ k : Nat, k ≤ x.length ∧ i = .int .i64 k ∧ Owned 5 .u8 wr (w.heap.size + 1) o ((txtL n ++ lebL x.length) ++ labsL (x.take k)) ∧ Labs wr w.heap.size (.slice A0 x.length c0) x ∧ Below w.heap.size w wr ∧ w.heap.size + 1 ≤ wr.heap.size) (fun _ i _ => x.length - (intOf i).toNat)
      case atStart => exact ⟨0, Nat.zero_le _, rfl, by rw [List.take_zero, labsL, List.append_nil]; exact hO4, LX, hB, hsz⟩
      case round =>
        clear hO4 aS LX hB hsz
        obtain ⟨k, hk, rfl, hown, hL, hB, hsz⟩ := hrel
        by_cases hlt : k < x.length
        · obtain ⟨ax, rfl, hbx, hcx⟩ := hL.at_ (by omega)
          have HLX := Lib.hid hL
          obtain ⟨x0, x1⟩ := hcx k hlt
          rw [add_next] at x1
          have j0 : (0 : Int) ≤ (k : Int) := by omega
          have j1 : (k : Int) < (x.length : Int) := by omega
          have HP : Hid ((txtL n ++ lebL x.length) ++ labsL (x.take (k + 1)) = ((txtL n ++ lebL x.length) ++ labsL (x.take k)) ++ (txtL x[k].1 ++ txtL x[k].2)) := Lib.hid (by rw [labsL_next hlt]; simp)
          have hl1 : ((txtL n ++ lebL x.length) ++ labsL (x.take k)).length ≤ 1268 := by
            have h1 := labsL_len (x.take k) fun l hl => HLS.out l (List.mem_of_mem_take hl)
            rw [List.length_take] at h1
            rw [List.length_append, List.length_append]
            omega
          obtain ⟨hp0, hp1⟩ := HLS.out _ (List.getElem_mem hlt)
          clear hcx hL
          generalize x[k].1 = p0 at *
          generalize x[k].2 = p1 at *
          generalize (txtL n ++ lebL x.length) ++ labsL (x.take k) = ys at *
          have hT0 := txtL_len p0 (by omega)
          have hT1 := txtL_len p1 (by omega)
          have hTT : (txtL p0 ++ txtL p1).length ≤ 148 := by rw [List.length_append]; omega
          have C0 : Hid (∀ W u, LstS W W.heap.size u [p0, p1] → Calls Tryz.prog 43 #[u] W (Copied 5 .u8 W (txtL p0 ++ txtL p1))) := Lib.hid fun W u h => by
            have := texts6_any u [p0, p1] W h (fun s hs => by simp at hs; rcases hs with rfl | rfl <;> omega) (by simp)
            rw [texts_two] at this
            exact this
          generalize txtL p0 ++ txtL p1 = zz at *
          obtain ⟨d0, d1, -, -⟩ := At2.new wr (.string p0) (.string p1) 45
          have hG := below_new wr (.cells #[.string p0, .string p1] 45)
          have hs2 := World.size_alloc wr (.cells #[.string p0, .string p1] 45)
          have hownG := hown.grow_ (.cells #[.string p0, .string p1] 45)
          go_upto_region 7 with fail
          generalize wr.alloc (.cells #[.string p0, .string p1] 45) = V at *
          have hG2 := below_new V (.cells #[.string p0, .string p1] 9)
          have LN := lstS_at V 9 [p0, p1] (wr.heap.size + 1) (Lib.hid hs2.symm)
          change LstS (V.alloc (.cells #[.string p0, .string p1] 9)) (V.alloc (.cells #[.string p0, .string p1] 9)).heap.size (.slice (some ⟨wr.heap.size + 1, 0, none⟩) 2 2) [p0, p1] at LN
          have hownH := hownG.grow_ (.cells #[.string p0, .string p1] 9)
          go_wp2_with fail
          generalize V.alloc (.cells #[.string p0, .string p1] 9) = V2 at *
          refine (C0.out _ _ LN).mono ?_; rintro e2 w2 ⟨y, rfl, hO2, hq2⟩
          obtain ⟨Ay, cy, rfl⟩ := hO2.val
          have hown2 := hownH.keep hq2
          have hsV : w.heap.size + 1 ≤ V2.heap.size := Nat.le_trans (Nat.le_trans hsz hG.size) hG2.size
          have hsz2 := Nat.le_trans hsV hq2.size
          go_wp2_with (at_builtin; go_must (refine wpList_append_src _ rfl (.tmp 27) (.tmp 33) 41 rfl (w.heap.size + 1) 5 ib (.int .u8 0) Tryz.underlying41 hi hz0 hz1 1 hz2 rfl _ ys.length (ys.map (Value.int .u8)) rfl hown2 Ay cy zz rfl (hO2.src_ (Below.refl _ _)) (by unfold maxLen; omega) (by omega) hsz2 ?_); intro v4 w4 hown4 hgrow4)
          obtain ⟨hO4, hq4⟩ := hown2.join (ys := zz) hsz2 hown4 hgrow4
          have hqa : Below (w.heap.size + 1) wr w4 := ((hG.mono hsz).trans ((hG2.mono (Nat.le_trans hsz hG.size)).trans (hq2.mono hsV))).trans hq4
          go_roundw
          case rel => exact ⟨k + 1, hlt, by go_num, by rw [HP.out]; exact hO4, HLX.out.below (hqa.mono (by omega)), hB.trans (hqa.mono (by omega)), Nat.le_trans hsz hqa.size⟩
          case measure => simp [intOf]; omega
        · obtain rfl : k = x.length := by omega
          rw [List.take_length, List.append_assoc, ← hE.out] at hown
          have j1 : ¬ (x.length : Int) < (x.length : Int) := by omega
          go_wp2_with fail
          go_ret
          exact ⟨_, rfl, hown.less (by omega), hB⟩
  · go_simp
    have hq := below_new v0 (.cells #[.int .u64 x.length] 83)
    have LU := lst_at v0 83 .u64 x.length v0.heap.size (Lib.hid rfl)
    generalize v0.alloc (.cells #[.int .u64 x.length] 83) = v1 at *
    replace aS := aS.below hq
    replace LX := LX.below (hq.mono (by omega))
    replace hB := hB.trans (hq.mono (by omega))
    replace hsz := Nat.le_trans hsz hq.size
    clear hq
    refine hK.out _ _ ?_ (fun hHeld => ?_)
    · exact ⟨aS.c0, aS.c1⟩
    clear hK K
    (try simp only [Act.put]); (try simp only [List.setIfInBounds_toArray]); (try simp only [List.set_cons_succ]); (try simp only [List.set_cons_zero])
    refine wpAnyH_ready (rs := [2]) (by kernel_rfl) (by simp) ?_
    refine AllReadyH.cons rfl (fun K hK => ?_) AllReadyH.nil
    go_simp
    have hq := below_new v1 (.cells #[.string n] 9)
    have LN := lstS_at v1 9 [n] v1.heap.size (Lib.hid rfl)
    change LstS (v1.alloc (.cells #[.string n] 9)) (v1.alloc (.cells #[.string n] 9)).heap.size (.slice (some ⟨v1.heap.size, 0, none⟩) 1 1) [n] at LN
    generalize v1.alloc (.cells #[.string n] 9) = v2 at *
    replace aS := aS.below hq
    replace LX := LX.below (hq.mono (by omega))
    replace hB := hB.trans (hq.mono (by omega))
    replace LU := (LU.below hq).more hq.size
    replace hsz := Nat.le_trans hsz hq.size
    clear hq
    refine hK.out _ _ ?_ (fun hHeld => ?_)
    · exact ⟨aS.c0, aS.c1⟩
    clear hK K
    (try simp only [Act.put]); (try simp only [List.setIfInBounds_toArray]); (try simp only [List.set_cons_succ]); (try simp only [List.set_cons_zero])
    refine wpAnyH_ready (rs := [3]) (by kernel_rfl) (by simp) ?_
    refine AllReadyH.cons rfl (fun K hK => ?_) AllReadyH.nil
    go_simp
    refine (CT.out _ _ LN).mono ?_
    rintro e2 v3 ⟨y, rfl, OT, hq⟩
    obtain ⟨Ay, cy, rfl⟩ := OT.val
    replace OT := OT.less hsz
    replace aS := aS.below hq
    replace LX := LX.below (hq.mono (by omega))
    replace hB := hB.trans (hq.mono (by omega))
    replace LN := (LN.below hq).more hq.size
    replace LU := (LU.below hq).more hq.size
    replace hsz := Nat.le_trans hsz hq.size
    clear hq LN
    try go_wp2_with fail
    refine hK.out _ _ ?_ (fun hHeld => ?_)
    · exact ⟨aS.c0, aS.c1⟩
    clear hK K
    (try simp only [Act.put]); (try simp only [List.setIfInBounds_toArray]); (try simp only [List.set_cons_succ]); (try simp only [List.set_cons_zero])
    refine wpAnyH_ready (rs := [9]) (by kernel_rfl) (by simp) ?_
    refine AllReadyH.cons rfl (fun K hK => ?_) AllReadyH.nil
    go_simp
    refine (CU.out _ _ LU).mono ?_
    rintro e3 v4 ⟨z, rfl, OU, hq⟩
    obtain ⟨Az, cz, rfl⟩ := OU.val
    replace aS := aS.below hq
    replace LX := LX.below (hq.mono (by omega))
    replace hB := hB.trans (hq.mono (by omega))
    replace OT := OT.keep hq
    replace hsz := Nat.le_trans hsz hq.size
    clear hq LU
    try go_wp2_with fail
    refine hK.out _ _ ?_ (fun hHeld => ?_)
    · exact ⟨aS.c0, aS.c1⟩
    clear hK K
    (try simp only [Act.put]); (try simp only [List.setIfInBounds_toArray]); (try simp only [List.set_cons_succ]); (try simp only [List.set_cons_zero])
    refine wpAnyH_ready (rs := [10]) (by kernel_rfl) (by simp) ?_
    refine AllReadyH.cons rfl (fun K hK => ?_) AllReadyH.nil
    refine step_append_src _ rfl (.tmp 12) (.tmp 18) 41 rfl (w.heap.size + 1) 5 ib (.int .u8 0) Tryz.underlying41 hi hz0 hz1 1 hz2 rfl _ (txtL n).length ((txtL n).map (Value.int .u8)) rfl OT Az cz (lebL x.length) rfl (OU.src_ (Below.refl _ _)) (by unfold maxLen; omega) (by omega) hsz ?_
    intro r5 v5 hown4 hgrow4
    obtain ⟨hO4, hq4⟩ := OT.join (ys := lebL x.length) hsz hown4 hgrow4
    replace aS := aS.low hq4 (by omega)
    replace LX := LX.below (hq4.mono (by omega))
    replace hB := hB.trans (hq4.mono (Nat.le_succ _))
    replace hsz := Nat.le_trans hsz hq4.size
    clear OT OU hown4 hgrow4 hq4
    refine hK.out _ _ ?_ (fun hHeld => ?_)
    · exact ⟨aS.c0, aS.c1⟩
    clear hK K
    (try simp only [Act.put]); (try simp only [List.setIfInBounds_toArray]); (try simp only [List.set_cons_succ]); (try simp only [List.set_cons_zero])
    refine take_at (i := 11) (d := some 3) (v := ?_) rfl rfl (by kernel_rfl) (by kernel_rfl) (by kernel_rfl) (fun _ _ _ h => h) (Or.inl ⟨by rfl, ?hyb9⟩) (by assumption) ?restb9
    case hyb9 => (intro w hSw; (try dsimp only at hSw); go_simp; try with_reducible rfl)
    (try simp only [Act.put]); (try simp only [List.setIfInBounds_toArray]); (try simp only [List.set_cons_succ]); (try simp only [List.set_cons_zero])
    refine wpAnyH_done (by kernel_rfl) ?_ _
    clear hwl CT CU
    go_wp2_with fail
    go_loopw [3, 23] (fun o i wr => ∃ k : Nat, k ≤ x.length ∧ i = .int .i64 k ∧ Owned 5 .u8 wr (w.heap.size + 1) o ((txtL n ++ lebL x.length) ++ labsL (x.take k)) ∧ Labs wr w.heap.size (.slice A0 x.length c0) x ∧ Below w.heap.size w wr ∧ w.heap.size + 1 ≤ wr.heap.size) (fun _ i _ => x.length - (intOf i).toNat)
    case atStart => exact ⟨0, Nat.zero_le _, rfl, by rw [List.take_zero, labsL, List.append_nil]; exact hO4, LX, hB, hsz⟩
    case round =>
      clear hO4 aS LX hB hsz
      obtain ⟨k, hk, rfl, hown, hL, hB, hsz⟩ := hrel
      by_cases hlt : k < x.length
      · obtain ⟨ax, rfl, hbx, hcx⟩ := hL.at_ (by omega)
        have HLX := Lib.hid hL
        obtain ⟨x0, x1⟩ := hcx k hlt
        rw [add_next] at x1
        have j0 : (0 : Int) ≤ (k : Int) := by omega
        have j1 : (k : Int) < (x.length : Int) := by omega
        have HP : Hid ((txtL n ++ lebL x.length) ++ labsL (x.take (k + 1)) = ((txtL n ++ lebL x.length) ++ labsL (x.take k)) ++ (txtL x[k].1 ++ txtL x[k].2)) := Lib.hid (by rw [labsL_next hlt]; simp)
        have hl1 : ((txtL n ++ lebL x.length) ++ labsL (x.take k)).length ≤ 1268 := by
          have h1 := labsL_len (x.take k) fun l hl => HLS.out l (List.mem_of_mem_take hl)
          rw [List.length_take] at h1
          rw [List.length_append, List.length_append]
          omega
        obtain ⟨hp0, hp1⟩ := HLS.out _ (List.getElem_mem hlt)
        clear hcx hL
        generalize x[k].1 = p0 at *
        generalize x[k].2 = p1 at *
        generalize (txtL n ++ lebL x.length) ++ labsL (x.take k) = ys at *
        have hT0 := txtL_len p0 (by omega)
        have hT1 := txtL_len p1 (by omega)
        have hTT : (txtL p0 ++ txtL p1).length ≤ 148 := by rw [List.length_append]; omega
        have C0 : Hid (∀ W u, LstS W W.heap.size u [p0, p1] → Calls Tryz.prog 43 #[u] W (Copied 5 .u8 W (txtL p0 ++ txtL p1))) := Lib.hid fun W u h => by
          have := texts6_any u [p0, p1] W h (fun s hs => by simp at hs; rcases hs with rfl | rfl <;> omega) (by simp)
          rw [texts_two] at this
          exact this
        generalize txtL p0 ++ txtL p1 = zz at *
        obtain ⟨d0, d1, -, -⟩ := At2.new wr (.string p0) (.string p1) 45
        have hG := below_new wr (.cells #[.string p0, .string p1] 45)
        have hs2 := World.size_alloc wr (.cells #[.string p0, .string p1] 45)
        have hownG := hown.grow_ (.cells #[.string p0, .string p1] 45)
        go_upto_region 7 with fail
        generalize wr.alloc (.cells #[.string p0, .string p1] 45) = V at *
        have hG2 := below_new V (.cells #[.string p0, .string p1] 9)
        have LN := lstS_at V 9 [p0, p1] (wr.heap.size + 1) (Lib.hid hs2.symm)
        change LstS (V.alloc (.cells #[.string p0, .string p1] 9)) (V.alloc (.cells #[.string p0, .string p1] 9)).heap.size (.slice (some ⟨wr.heap.size + 1, 0, none⟩) 2 2) [p0, p1] at LN
        have hownH := hownG.grow_ (.cells #[.string p0, .string p1] 9)
        go_wp2_with fail
        generalize V.alloc (.cells #[.string p0, .string p1] 9) = V2 at *
        refine (C0.out _ _ LN).mono ?_; rintro e2 w2 ⟨y, rfl, hO2, hq2⟩
        obtain ⟨Ay, cy, rfl⟩ := hO2.val
        have hown2 := hownH.keep hq2
        have hsV : w.heap.size + 1 ≤ V2.heap.size := Nat.le_trans (Nat.le_trans hsz hG.size) hG2.size
        have hsz2 := Nat.le_trans hsV hq2.size
        go_wp2_with (at_builtin; go_must (refine wpList_append_src _ rfl (.tmp 27) (.tmp 33) 41 rfl (w.heap.size + 1) 5 ib (.int .u8 0) Tryz.underlying41 hi hz0 hz1 1 hz2 rfl _ ys.length (ys.map (Value.int .u8)) rfl hown2 Ay cy zz rfl (hO2.src_ (Below.refl _ _)) (by unfold maxLen; omega) (by omega) hsz2 ?_); intro v4 w4 hown4 hgrow4)
        obtain ⟨hO4, hq4⟩ := hown2.join (ys := zz) hsz2 hown4 hgrow4
        have hqa : Below (w.heap.size + 1) wr w4 := ((hG.mono hsz).trans ((hG2.mono (Nat.le_trans hsz hG.size)).trans (hq2.mono hsV))).trans hq4
        go_roundw
        case rel => exact ⟨k + 1, hlt, by go_num, by rw [HP.out]; exact hO4, HLX.out.below (hqa.mono (by omega)), hB.trans (hqa.mono (by omega)), Nat.le_trans hsz hqa.size⟩
        case measure => simp [intOf]; omega
      · obtain rfl : k = x.length := by omega
        rw [List.take_length, List.append_assoc, ← hE.out] at hown
        have j1 : ¬ (x.length : Int) < (x.length : Int) := by omega
        go_wp2_with fail
        go_ret
        exact ⟨_, rfl, hown.less (by omega), hB⟩
end Go.Proofs.YteiilmnehdbdiaaGreatDoor
