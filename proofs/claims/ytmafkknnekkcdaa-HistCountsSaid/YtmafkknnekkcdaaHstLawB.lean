/- Law 5's HistCounts, walked from what the law asks of the packages. -/
import Derived.Test.YtmafkknnekkcdaaHstK
import Derived.Test.YtmafkknnekkcdaaHstV
import Derived.Test.YtmafkknnekkcdaaHstM
import Derived.Test.YtmafkknnekkcdaaCopyLongs
import Derived.Test.YtmafkknnekkcdaaTake
import Derived.Deep.CutBlock
import Derived.Deep.DeepCutAuto
namespace Go.Proofs.Ytmafkknnekkcdaa
open Go.RowKit

theorem mergeI_len (rs : List (List Int)) : (mergeI rs).1.length = 65 := by
  unfold mergeI
  split
  · exact zrow_len
  · split
    · exact zrow_len
    · exact cols_len rs
theorem RowsS.len65 {w : World} {B : Nat} {v : Value} {rs : List (List Int)} (h : RowsS w B v rs) : ∀ r ∈ rs, r.length = 65 := by
  intro r hr
  obtain ⟨j, hj, rfl⟩ := List.getElem_of_mem hr
  obtain ⟨_, _, _, _, h⟩ := h
  obtain ⟨_, _, _, _, h⟩ := h (by omega)
  exact (h j hj).1
theorem RowsS.row {w : World} {B : Nat} {A : Option Addr} {n c : Nat} {rs : List (List Int)} (h : RowsS w B (.slice A n c) rs) (hn : 0 < rs.length) :
    ∃ b o, A = some ⟨b, o, none⟩ ∧ b < B ∧ ∀ j (hj : j < rs.length), w.rangeAt b (o + j * 65) (rs[j].map (Value.int .i64)) := by
  obtain ⟨A', c', e, _, h⟩ := h
  injection e with e1 e2 e3
  subst e1
  obtain ⟨b, o, e, hb, h⟩ := h hn
  exact ⟨b, o, e, hb, fun j hj => (h j hj).2⟩

theorem RowsS.drew {w : World} {B : Nat} {v : Value} {rs : List (List Int)} (h : RowsS w B v rs) : RowsS w.drew B v rs := h
theorem RowAt.kept {w w1 : World} {b B : Nat} {zs : List Int} (R : RowAt w b zs) (h : Below B w w1) (hb : b < B) : RowAt w1 b zs :=
  ⟨fun k hk => (h.cell (p := ⟨b, k, none⟩) hb).trans (R.cell k hk), fun k hk => (h.frozen (p := ⟨b, k, none⟩) hb).trans (R.free k hk), Nat.lt_of_lt_of_le R.lt h.size⟩

set_option maxRecDepth 100000 in
set_option maxHeartbeats 4000000 in
theorem histCounts_any (G : HistC) (v : Value) (zs : List Int) (rv : Value) (rs : List (List Int)) (x : Int) (w : World) (hl : Lst w w.heap.size .i64 v zs) (hf : ∀ z ∈ zs, Fits z)
    (hr : RowsS w w.heap.size rv rs) (hrf : ∀ r ∈ rs, ∀ z ∈ r, Fits z) (hx : Fits x) :
    Calls Try.prog 4 #[v, rv, .int .i64 x] w fun e w' => e = .returned (.bool true) ∧ Below w.heap.size w w' := by
  have C0 := Lib.hid (alive5_any G w)
  obtain ⟨A, c, rfl⟩ := hl.len
  obtain ⟨A2, c2, rfl⟩ := hr.len
  by_cases hbig : 200 < zs.length
  · have hb1 : (200 : Int) < (zs.length : Int) := by omega
    clear G hl hf hr hrf
    go_enter Try.func4, Try.ntmps4
    go_wp2_with fail
    refine (C0.out).mono ?_; rintro e w0 ⟨rfl, h⟩
    go_wp2_with fail
    go_ret
    exact ⟨rfl, h⟩
  have hb1 : ¬ (200 : Int) < (zs.length : Int) := by omega
  by_cases hbig2 : 20 < rs.length
  · have hb2 : (20 : Int) < (rs.length : Int) := by omega
    clear G hl hf hr hrf
    go_enter Try.func4, Try.ntmps4
    go_wp2_with fail
    refine (C0.out).mono ?_; rintro e w0 ⟨rfl, h⟩
    go_wp2_with fail
    go_ret
    exact ⟨rfl, h⟩
  have hb2 : ¬ (20 : Int) < (rs.length : Int) := by omega
  have hn : zs.length ≤ 1000000 := by omega
  have hrn : rs.length ≤ 1000000 := by omega
  have h65 := hr.len65
  have CC := Lib.hid fun W (h : Below w.heap.size w W) => copyLongs_any _ zs W ((hl.below h).more h.size) hn
  have CO := Lib.hid fun v W (h : Lst W W.heap.size .i64 v zs) => G.of v zs W h hf hn
  have CR := Lib.hid fun W (h : Below w.heap.size w W) => rOf5_any _ zs W ((hl.below h).more h.size) hf hn
  have CM := Lib.hid fun v W (h : RowsS W W.heap.size v rs) => G.merge v rs W h hrf hrn
  have CN := Lib.hid fun W (h : Below w.heap.size w W) => rMerge_any _ rs W ((hr.keep h).more h.size) hrf hrn
  have CA := Lib.hid fun (h0 : 0 < rs.length) W => G.add rs[0] x W (h65 _ (List.getElem_mem h0)) (hrf _ (List.getElem_mem h0)) hx
  have CB := Lib.hid fun (h0 : 0 < rs.length) v W (h : RowsS W W.heap.size v [rs[0], histOf [x]]) => rMerge_any v _ W h (by intro r hr; simp at hr; rcases hr with rfl | rfl; exact hrf _ (List.getElem_mem h0); exact histOf_fits (by show 1 ≤ 1000000; omega)) (by show 2 ≤ 1000000; omega)
  have CX := Lib.hid fun v W (h : Lst W W.heap.size .i64 v [x]) => rOf5_any v [x] W h (by intro z hz; simp at hz; subst hz; exact hx) (by show 1 ≤ 1000000; omega)
  unfold RowE at CM CN CA CB
  have HPM := Lib.hid (mergeI_len rs)
  have HPA := Lib.hid fun (h0 : 0 < rs.length) => mergeI_len [rs[0], histOf [x]]
  generalize mergeI rs = pm at *
  obtain ⟨ms, me⟩ := pm
  dsimp only at HPM CM CN
  have HL0 := Lib.hid (histOf_length zs)
  have HLX := Lib.hid (histOf_length [x])
  have H65 := Lib.hid h65
  have HRS := Lib.hid hr
  have HN := Lib.hid (show rs.length ≤ 20 by omega)
  have hz0 := zeroH
  have hz65 := zero65
  obtain ⟨i0, hi, hzi, hsi, hbi⟩ := hist_bytes
  have hu := Try.underlying33
  have hu6 := Try.underlying32
  clear hn hrn hrf hx h65 G hl hf hr
  generalize histOf zs = hs at *
  go_enter Try.func4, Try.ntmps4
  go_wp2_with fail
  refine (C0.out).mono ?_; rintro e w0 ⟨rfl, hB⟩
  clear C0
  go_wp2_with fail
  refine (CC.out _ hB).mono ?_
  rintro e w1 ⟨v1, rfl, hown1, h⟩
  replace hB := ext_step hB h
  clear h
  go_wp2_with fail
  refine (CO.out _ _ hown1.lst).mono ?_
  rintro e w2 ⟨rfl, h⟩
  replace hB := ext_step hB h
  clear h hown1 CC CO
  go_upto_region 6 with (refine wpList_store_mid rfl _ (.tmp 7) (.tmp 30) rfl _ 0 _ rfl rfl (there_new w2 _ HL0.out) (infoHs _ HL0.out) (row_one _) ?_)
  have R7 := row_stored w2 _ HL0.out
  replace hB := below_stored hB hs
  generalize (w2.alloc zobj).setCells w2.heap.size 0 ((hs.map (Value.int .i64)).toArray).toList = W2 at *
  generalize w2.heap.size = b7 at *
  have OE := OwnR.empty W2
  have hb8 : W2.heap.size < (W2.alloc (.cells #[] 33)).heap.size := by simp
  have g7 : b7 < W2.heap.size := R7.lt
  replace R7 := R7.alloc (.cells #[] 33)
  have hbd := hB.size
  replace hB := ext_alloc hB (.cells #[] 33)
  go_wp2_with fail
  generalize W2.alloc (.cells #[] 33) = W3 at *
  generalize W2.heap.size = b8 at *
  have HBD : Hid (w.heap.size ≤ b8) := Lib.hid hbd
  have HG7 : Hid (b7 < b8) := Lib.hid g7
  have HB8 : Hid (b8 < W3.heap.size) := Lib.hid hb8
  clear hbd g7 hb8
  go_loopw [8, 9] (fun av i wr => ∃ k : Nat, k ≤ rs.length ∧ i = .int .i64 k ∧ OwnR wr b8 av (rs.take k) ∧ Below b8 W3 wr) (fun _ i _ => rs.length - (intOf i).toNat)
  case atStart => exact ⟨0, Nat.zero_le _, rfl, OE, Below.refl _ _⟩
  case round =>
    clear OE
    obtain ⟨k, hk, rfl, hown, hBk⟩ := hrel
    by_cases hlt : k < rs.length
    · obtain ⟨b, o, rfl, hbw, hcell⟩ := HRS.out.row (by omega)
      have hBw := hB.trans (hBk.mono HBD.out)
      have HR := Lib.hid fun i v hv => (hBw.cell (p := ⟨b, o + k * 65 + i, none⟩) hbw).trans (hcell k hlt i v hv)
      have h65k := Lib.hid (H65.out _ (List.getElem_mem hlt))
      have hT := Lib.hid (List.take_succ_eq_append_getElem hlt)
      have hKL : (rs.take k).length = k := by rw [List.length_take]; omega
      have ho2 := hown
      unfold OwnR at ho2
      rw [hKL] at ho2
      replace ho2 := Lib.hid ho2
      have hszk : Hid (b8 ≤ wr.heap.size) := Lib.hid (Nat.le_trans (Nat.le_of_lt HB8.out) hBk.size)
      have k0 : (0 : Int) ≤ (k : Int) := by omega
      have k1 : (k : Int) < (rs.length : Int) := by omega
      have k2 : (k : Int) < 20 := by have := HN.out; omega
      clear hbw hcell hBw
      generalize rs[k] = r at *
      go_wp2_with (first
        | (refine wpList_load_mid rfl _ (.tmp 41) rfl b (o + k * 65) rfl _ _ HR.out hu6 rfl (infoRl r h65k.out) ?_)
        | (refine wpList_one rfl (.tmp 42) rfl r h65k.out rfl ?_)
        | (at_builtin; go_must (refine wpList_append_cells _ rfl (.tmp 38) (.tmp 43) 36 rfl b8 33 i0 (rowV zrow) 65 520 Try.underlying36 hi hzi hsi hbi (rowsz zrow zrow_len) (by decide) _ k (cellsR (rs.take k)) rfl (World.ownsRow.alloc ho2.out _) (some ⟨wr.heap.size, 0, none⟩) 1 1 (r.map (Value.int .i64)) rfl (by rw [List.length_map, h65k.out]) (one_src wr r _) (one_cells r) (by have := HN.out; unfold maxLen; omega) (by have := HN.out; omega) (by have := hszk.out; simp; omega) ?_); intro v2 w2 hown2 hgrow2))
      have hgr := OwnR.grow hown hBk hszk.out (by rw [hKL]; exact hown2) hgrow2
      rw [← hT.out] at hgr
      exact ⟨⟨k + 1, by omega, rfl, hgr.1, hgr.2⟩, by simp [intOf]; omega⟩
    · obtain rfl : k = rs.length := by omega
      rw [List.take_length] at hown
      replace hB := hB.trans (hBk.mono HBD.out)
      replace R7 := R7.kept hBk HG7.out
      have RA := hown.rows H65.out
      obtain ⟨A3, c3, rfl⟩ := RA.len
      clear hown hBk hk hlt HB8 HBD HG7
      go_wp2_with fail
      refine (CM.out _ _ RA).mono ?_; rintro e w3 ⟨rfl, h⟩
      replace hB := ext_step hB h
      replace R7 := R7.below h
      replace RA := (RA.keep h).more h.size
      clear h CM
      go_upto_region 12 with (refine wpList_store_mid rfl _ (.tmp 10) (.tmp 48) rfl _ 0 _ rfl rfl (there_new w3 ms HPM.out) (infoHs ms HPM.out) (row_one _) ?_)
      have R10 := row_stored w3 ms HPM.out
      have h := below_own w3 ms
      replace hB := below_stored hB ms
      replace R7 := R7.below h
      replace RA := (RA.keep h).more h.size
      clear h
      generalize (w3.alloc zobj).setCells w3.heap.size 0 ((ms.map (Value.int .i64)).toArray).toList = W4 at *
      generalize w3.heap.size = b10 at *
      go_wp2_with fail
      refine (CN.out _ hB).mono ?_; rintro e w4 ⟨rfl, h⟩
      replace hB := ext_step hB h
      replace R7 := R7.below h
      replace R10 := R10.below h
      replace RA := (RA.keep h).more h.size
      clear h CN
      go_upto_region 13 with (refine wpList_store_mid rfl _ (.tmp 12) (.tmp 53) rfl _ 0 _ rfl rfl (thereR_new w4 ms HPM.out) (infoRs ms HPM.out) (row_one _) ?_)
      have R12 := rowR_stored w4 ms HPM.out
      have h := belowR_own w4 ms
      replace hB := belowR_stored hB ms
      replace R7 := R7.below h
      replace R10 := R10.below h
      replace RA := (RA.keep h).more h.size
      clear h
      generalize (w4.alloc robj).setCells w4.heap.size 0 ((ms.map (Value.int .i64)).toArray).toList = W5 at *
      generalize w4.heap.size = b12 at *
      have hE1 := neq_row hs HL0.out
      have hE2 := neq_row ms HPM.out
      refine wp_region_held_drew (S := fun w' => w'.rangeAt b7 0 (hs.map (Value.int .i64)) ∧ w'.rangeAt b10 0 (ms.map (Value.int .i64)) ∧ w'.rangeAt b12 0 (ms.map (Value.int .i64))) (by kernel_rfl) ?_ (fun hHeld => ?_)
      · exact ⟨RowAt.range R7.drew, RowAt.range R10.drew, RowAt.range R12.drew⟩
      refine take_at (i := 0) (d := some 55) (v := _) rfl rfl (by kernel_rfl) (by kernel_rfl) (by kernel_rfl) (fun _ _ _ h => h) (yieldsIf_load_mid (by rfl) _ (.tmp 7) rfl b7 0 rfl (hs.map (Value.int .i64)) _ (fun _ h => h.1) hu rfl (infoHl hs HL0.out)) (by assumption) ?_
      (try simp only [Act.put]); (try simp only [List.setIfInBounds_toArray]); (try simp only [List.set_cons_succ]); (try simp only [List.set_cons_zero])
      refine take_at (i := 1) (d := some 56) (v := ?_) rfl rfl (by kernel_rfl) (by kernel_rfl) (by kernel_rfl) (fun _ _ _ h => h) (Or.inl ⟨by rfl, ?hya2⟩) (by assumption) ?resta2
      case hya2 => (intro w hSw; (try dsimp only at hSw); go_simp; try with_reducible rfl)
      (try simp only [Act.put]); (try simp only [List.setIfInBounds_toArray]); (try simp only [List.set_cons_succ]); (try simp only [List.set_cons_zero])
      refine wpAnyH_ready (rs := [2]) (by kernel_rfl) (by simp) ?_
      refine AllReadyH.cons rfl (fun K hK => ?_) AllReadyH.nil
      go_simp
      go_at_call 18
      refine (CR.out _ hB.drew).mono ?_
      rintro e w6 ⟨rfl, hq⟩
      have B6 := ext_step hB.drew hq
      have Q6 := RowAt.below R7.drew hq
      have P6 := RowAt.below R10.drew hq
      have O6 := RowAt.below R12.drew hq
      have RA6 := (RowsS.keep (RowsS.drew RA) hq).more hq.size
      clear hq
      try go_wp2_with fail
      refine hK.out _ _ ?_ (fun hHeld => ?_)
      · exact ⟨RowAt.range Q6, RowAt.range P6, RowAt.range O6⟩
      clear hK K
      (try simp only [Act.put]); (try simp only [List.setIfInBounds_toArray]); (try simp only [List.set_cons_succ]); (try simp only [List.set_cons_zero])
      refine take_at (i := 3) (d := some 58) (v := ?_) rfl rfl (by kernel_rfl) (by kernel_rfl) (by kernel_rfl) (fun _ _ _ h => h) (Or.inl ⟨by rfl, ?hya3⟩) (by assumption) ?resta3
      case hya3 => (intro w hSw; (try dsimp only at hSw); go_simp; try with_reducible rfl)
      (try simp only [Act.put]); (try simp only [List.setIfInBounds_toArray]); (try simp only [List.set_cons_succ]); (try simp only [List.set_cons_zero])
      refine take_at (i := 4) (d := some 59) (v := ?_) rfl rfl (by kernel_rfl) (by kernel_rfl) (by kernel_rfl) (fun _ _ _ h => h) (Or.inl ⟨by rfl, ?hya4⟩) (by assumption) ?resta4
      case hya4 => (intro w hSw; (try dsimp only at hSw); go_simp; try with_reducible rfl)
      (try simp only [Act.put]); (try simp only [List.setIfInBounds_toArray]); (try simp only [List.set_cons_succ]); (try simp only [List.set_cons_zero])
      refine take_at (i := 5) (d := some 60) (v := _) rfl rfl (by kernel_rfl) (by kernel_rfl) (by kernel_rfl) (fun _ _ _ h => h) (yieldsIf_load_mid (by rfl) _ (.tmp 10) rfl b10 0 rfl (ms.map (Value.int .i64)) _ (fun _ h => h.2.1) hu rfl (infoHl ms HPM.out)) (by assumption) ?_
      (try simp only [Act.put]); (try simp only [List.setIfInBounds_toArray]); (try simp only [List.set_cons_succ]); (try simp only [List.set_cons_zero])
      refine take_at (i := 6) (d := some 61) (v := _) rfl rfl (by kernel_rfl) (by kernel_rfl) (by kernel_rfl) (fun _ _ _ h => h) (yieldsIf_load_mid (by rfl) _ (.tmp 12) rfl b12 0 rfl (ms.map (Value.int .i64)) _ (fun _ h => h.2.2) hu6 rfl (infoRl ms HPM.out)) (by assumption) ?_
      (try simp only [Act.put]); (try simp only [List.setIfInBounds_toArray]); (try simp only [List.set_cons_succ]); (try simp only [List.set_cons_zero])
      refine take_at (i := 7) (d := some 62) (v := ?_) rfl rfl (by kernel_rfl) (by kernel_rfl) (by kernel_rfl) (fun _ _ _ h => h) (Or.inl ⟨by rfl, ?hya7⟩) (by assumption) ?resta7
      case hya7 => (intro w hSw; (try dsimp only at hSw); go_simp; try with_reducible rfl)
      (try simp only [Act.put]); (try simp only [List.setIfInBounds_toArray]); (try simp only [List.set_cons_succ]); (try simp only [List.set_cons_zero])
      refine take_at (i := 8) (d := some 63) (v := ?_) rfl rfl (by kernel_rfl) (by kernel_rfl) (by kernel_rfl) (fun _ _ _ h => h) (Or.inl ⟨by rfl, ?hya8⟩) (by assumption) ?resta8
      case hya8 => (intro w hSw; (try dsimp only at hSw); go_simp; try with_reducible rfl)
      (try simp only [Act.put]); (try simp only [List.setIfInBounds_toArray]); (try simp only [List.set_cons_succ]); (try simp only [List.set_cons_zero])
      refine take_at (i := 9) (d := some 64) (v := ?_) rfl rfl (by kernel_rfl) (by kernel_rfl) (by kernel_rfl) (fun _ _ _ h => h) (Or.inl ⟨by rfl, ?hya9⟩) (by assumption) ?resta9
      case hya9 => (intro w hSw; (try dsimp only at hSw); go_simp; try with_reducible rfl)
      (try simp only [Act.put]); (try simp only [List.setIfInBounds_toArray]); (try simp only [List.set_cons_succ]); (try simp only [List.set_cons_zero])
      refine take_at (i := 10) (d := some 65) (v := ?_) rfl rfl (by kernel_rfl) (by kernel_rfl) (by kernel_rfl) (fun _ _ _ h => h) (Or.inl ⟨by rfl, ?hya10⟩) (by assumption) ?resta10
      case hya10 => (intro w hSw; (try dsimp only at hSw); go_simp; try with_reducible rfl)
      (try simp only [Act.put]); (try simp only [List.setIfInBounds_toArray]); (try simp only [List.set_cons_succ]); (try simp only [List.set_cons_zero])
      refine take_at (i := 11) (d := some 66) (v := ?_) rfl rfl (by kernel_rfl) (by kernel_rfl) (by kernel_rfl) (fun _ _ _ h => h) (Or.inl ⟨by rfl, ?hya11⟩) (by assumption) ?resta11
      case hya11 => (intro w hSw; (try dsimp only at hSw); go_simp; try with_reducible rfl)
      (try simp only [Act.put]); (try simp only [List.setIfInBounds_toArray]); (try simp only [List.set_cons_succ]); (try simp only [List.set_cons_zero])
      refine take_at (i := 12) (d := some 67) (v := ?_) rfl rfl (by kernel_rfl) (by kernel_rfl) (by kernel_rfl) (fun _ _ _ h => h) (Or.inl ⟨by rfl, ?hya12⟩) (by assumption) ?resta12
      case hya12 => (intro w hSw; (try dsimp only at hSw); go_simp; try with_reducible rfl)
      (try simp only [Act.put]); (try simp only [List.setIfInBounds_toArray]); (try simp only [List.set_cons_succ]); (try simp only [List.set_cons_zero])
      refine take_at (i := 13) (d := some 68) (v := ?_) rfl rfl (by kernel_rfl) (by kernel_rfl) (by kernel_rfl) (fun _ _ _ h => h) (Or.inl ⟨by rfl, ?hya13⟩) (by assumption) ?resta13
      case hya13 => (intro w hSw; (try dsimp only at hSw); go_simp; try with_reducible rfl)
      (try simp only [Act.put]); (try simp only [List.setIfInBounds_toArray]); (try simp only [List.set_cons_succ]); (try simp only [List.set_cons_zero])
      refine wpAnyH_done (by kernel_rfl) ?_ _
      clear hB R7 R10 R12 RA CR hE1 hE2 Q6 P6 O6
      rcases Nat.eq_zero_or_pos rs.length with h0 | h0
      · have k1 : ((rs.length : Nat) : Int) = 0 := by omega
        go_wp2_with fail
        go_ret
        exact ⟨rfl, B6⟩
      have k1 : ¬ ((rs.length : Nat) : Int) = 0 := by omega
      have k2 : (0 : Int) < ((rs.length : Nat) : Int) := by omega
      have CA1 := Lib.hid (CA.out h0)
      have CB1 := Lib.hid (CB.out h0)
      have HPA1 := Lib.hid (HPA.out h0)
      have hr0 := Lib.hid (H65.out _ (List.getElem_mem h0))
      obtain ⟨b, o, rfl, hbw, hcell⟩ := HRS.out.row h0
      obtain ⟨b', o', rfl, hbw', hcell'⟩ := RA6.row h0
      have HC1 := Lib.hid (hcell 0 h0)
      have HC2 := Lib.hid (hcell' 0 h0)
      rw [Nat.zero_mul, Nat.add_zero] at HC1 HC2
      clear CA CB HPA hcell hcell' HRS RA6 HN
      generalize rs[0] = r0 at *
      generalize mergeI [r0, histOf [x]] = pa at *
      obtain ⟨ys, ye⟩ := pa
      dsimp only at HPA1 CA1 CB1
      generalize histOf [x] = hx at *
      go_wp2_with (refine wpList_load_mid rfl _ (.tmp 74) rfl b' o' rfl _ _ HC2.out hu rfl (infoHl r0 hr0.out) ?_)
      refine (CA1.out _).mono ?_; rintro e w7 ⟨rfl, h⟩
      have hB := ext_step B6 h
      replace HC2 : Hid (w7.rangeAt b' o' (r0.map (Value.int .i64))) := Lib.hid fun i v hv => (h.cell (p := ⟨b', o' + i, none⟩) hbw').trans (HC2.out i v hv)
      replace hbw' := Nat.lt_of_lt_of_le hbw' h.size
      clear h B6 CA1
      go_upto_region 18 with (refine wpList_store_mid rfl _ (.tmp 14) (.tmp 78) rfl _ 0 _ rfl rfl (there_new w7 ys HPA1.out) (infoHs ys HPA1.out) (row_one _) ?_)
      have R14 := row_stored w7 ys HPA1.out
      have h := below_own w7 ys
      replace hB := below_stored hB ys
      replace HC2 : Hid (((w7.alloc zobj).setCells w7.heap.size 0 ((ys.map (Value.int .i64)).toArray).toList).rangeAt b' o' (r0.map (Value.int .i64))) := Lib.hid fun i v hv => (h.cell (p := ⟨b', o' + i, none⟩) hbw').trans (HC2.out i v hv)
      replace hbw' := Nat.lt_of_lt_of_le hbw' h.size
      clear h
      generalize (w7.alloc zobj).setCells w7.heap.size 0 ((ys.map (Value.int .i64)).toArray).toList = W7 at *
      generalize w7.heap.size = b14 at *
      have hT0 : Below W7.heap.size W7 W7.drew := (Below.refl _ _).drew
      have HBT : Hid (∀ W, Below W7.heap.size W7 W → Below w.heap.size w W) := Lib.hid fun W h => hB.trans (h.mono hB.size)
      have HROW : Hid (∀ W, Below W7.heap.size W7 W → W.rangeAt b o (r0.map (Value.int .i64))) := Lib.hid fun W h i v hv => ((HBT.out W h).cell (p := ⟨b, o + i, none⟩) hbw).trans (HC1.out i v hv)
      go_cut [16, 17] (fun p e wx => ∃ g, p = .pointer (some ⟨g, 0, none⟩) ∧ e = .int .i64 ye ∧ RowAt wx g ys ∧ Below W7.heap.size W7 wx)
      case first =>
        refine wp_region_held_drew (S := fun w' => w'.rangeAt b o (r0.map (Value.int .i64))) (by kernel_rfl) ?_ (fun hHeld => ?_)
        · exact HROW.out _ hT0
        refine take_at (i := 0) (d := some 81) (v := ?_) rfl rfl (by kernel_rfl) (by kernel_rfl) (by kernel_rfl) (fun _ _ _ h => h) (Or.inl ⟨by rfl, ?hyb1⟩) (by assumption) ?restb1
        case hyb1 => (intro w hSw; (try dsimp only at hSw); go_simp; try with_reducible rfl)
        (try simp only [Act.put]); (try simp only [List.setIfInBounds_toArray]); (try simp only [List.set_cons_succ]); (try simp only [List.set_cons_zero])
        refine take_at (i := 1) (d := some 82) (v := ?_) rfl rfl (by kernel_rfl) (by kernel_rfl) (by kernel_rfl) (fun _ _ _ h => h) (Or.inl ⟨by rfl, ?hyb2⟩) (by assumption) ?restb2
        case hyb2 => (intro w hSw; (try dsimp only at hSw); go_simp; try with_reducible rfl)
        (try simp only [Act.put]); (try simp only [List.setIfInBounds_toArray]); (try simp only [List.set_cons_succ]); (try simp only [List.set_cons_zero])
        refine take_at (i := 2) (d := some 83) (v := _) rfl rfl (by kernel_rfl) (by kernel_rfl) (by kernel_rfl) (fun _ _ _ h => h) (yieldsIf_load_mid (by rfl) _ (.tmp 82) rfl b o rfl (r0.map (Value.int .i64)) _ (fun _ h => h) hu6 rfl (infoRl r0 hr0.out)) (by assumption) ?_
        (try simp only [Act.put]); (try simp only [List.setIfInBounds_toArray]); (try simp only [List.set_cons_succ]); (try simp only [List.set_cons_zero])
        refine take_at (i := 3) (d := some 84) (v := ?_) rfl rfl (by kernel_rfl) (by kernel_rfl) (by kernel_rfl) (fun _ _ _ h => h) (Or.inl ⟨by rfl, ?hyb4⟩) (by assumption) ?restb4
        case hyb4 => (intro w hSw; (try dsimp only at hSw); go_simp; try with_reducible rfl)
        (try simp only [Act.put]); (try simp only [List.setIfInBounds_toArray]); (try simp only [List.set_cons_succ]); (try simp only [List.set_cons_zero])
        refine wpAnyH_ready (rs := [4, 11]) (by kernel_rfl) (by simp) ?_
        refine AllReadyH.cons rfl (fun K hK => ?_) (AllReadyH.cons rfl (fun K hK => ?_) AllReadyH.nil)
        · go_simp
          refine hK.out _ _ ?_ (fun hHeld => ?_)
          · exact HROW.out _ (ext_alloc hT0 (.cells #[.int .i64 x] 2))
          clear hK K
          (try simp only [Act.put]); (try simp only [List.setIfInBounds_toArray]); (try simp only [List.set_cons_succ]); (try simp only [List.set_cons_zero])
          refine wpAnyH_ready (rs := [5, 11]) (by kernel_rfl) (by simp) ?_
          refine AllReadyH.cons rfl (fun K hK => ?_) (AllReadyH.cons rfl (fun K hK => ?_) AllReadyH.nil)
          · go_simp
            go_at_call 18
            refine (CX.out _ _ (Lst.fresh W7.drew [x] 2 _ (Lib.hid (by first | rfl | simp)))).mono ?_
            rintro e wa ⟨rfl, hq⟩
            have Ta := ext_step (ext_alloc hT0 (.cells #[.int .i64 x] 2)) hq
            clear hq
            try go_wp2_with fail
            refine hK.out _ _ ?_ (fun hHeld => ?_)
            · exact HROW.out _ Ta
            clear hK K
            (try simp only [Act.put]); (try simp only [List.setIfInBounds_toArray]); (try simp only [List.set_cons_succ]); (try simp only [List.set_cons_zero])
            refine wpAnyH_ready (rs := [6, 11]) (by kernel_rfl) (by simp) ?_
            refine AllReadyH.cons rfl (fun K hK => ?_) (AllReadyH.cons rfl (fun K hK => ?_) AllReadyH.nil)
            · refine step_twoR rfl (.tmp 83) (.tmp 86) rfl r0 hx hr0.out HLX.out rfl rfl ?_
              refine hK.out _ _ ?_ (fun hHeld => ?_)
              · exact HROW.out _ (ext_alloc Ta (.cells (twoRows r0 hx) 32))
              clear hK K
              (try simp only [Act.put]); (try simp only [List.setIfInBounds_toArray]); (try simp only [List.set_cons_succ]); (try simp only [List.set_cons_zero])
              refine wpAnyH_ready (rs := [7, 11]) (by kernel_rfl) (by simp) ?_
              refine AllReadyH.cons rfl (fun K hK => ?_) (AllReadyH.cons rfl (fun K hK => ?_) AllReadyH.nil)
              · go_simp
                go_at_call 17
                refine (CB1.out _ _ (RowsS.two wa r0 hx hr0.out HLX.out _ _ (Lib.hid (by first | rfl | simp)))).mono ?_
                rintro e wb ⟨rfl, hq⟩
                have Tb := ext_step (ext_alloc Ta (.cells (twoRows r0 hx) 32)) hq
                clear hq
                try go_wp2_with fail
                refine hK.out _ _ ?_ (fun hHeld => ?_)
                · exact HROW.out _ Tb
                clear hK K
                (try simp only [Act.put]); (try simp only [List.setIfInBounds_toArray]); (try simp only [List.set_cons_succ]); (try simp only [List.set_cons_zero])
                refine take_at (i := 8) (d := some 80) (v := ?_) rfl rfl (by kernel_rfl) (by kernel_rfl) (by kernel_rfl) (fun _ _ _ h => h) (Or.inl ⟨by rfl, ?hyb5⟩) (by assumption) ?restb5
                case hyb5 => (intro w hSw; (try dsimp only at hSw); go_simp; try with_reducible rfl)
                (try simp only [Act.put]); (try simp only [List.setIfInBounds_toArray]); (try simp only [List.set_cons_succ]); (try simp only [List.set_cons_zero])
                refine take_at (i := 9) (d := some 89) (v := ?_) rfl rfl (by kernel_rfl) (by kernel_rfl) (by kernel_rfl) (fun _ _ _ h => h) (Or.inl ⟨by rfl, ?hyb6⟩) (by assumption) ?restb6
                case hyb6 => (intro w hSw; (try dsimp only at hSw); go_simp; try with_reducible rfl)
                (try simp only [Act.put]); (try simp only [List.setIfInBounds_toArray]); (try simp only [List.set_cons_succ]); (try simp only [List.set_cons_zero])
                refine take_at (i := 10) (d := some 90) (v := ?_) rfl rfl (by kernel_rfl) (by kernel_rfl) (by kernel_rfl) (fun _ _ _ h => h) (Or.inl ⟨by rfl, ?hyb7⟩) (by assumption) ?restb7
                case hyb7 => (intro w hSw; (try dsimp only at hSw); go_simp; try with_reducible rfl)
                (try simp only [Act.put]); (try simp only [List.setIfInBounds_toArray]); (try simp only [List.set_cons_succ]); (try simp only [List.set_cons_zero])
                refine wpAnyH_ready (rs := [11]) (by kernel_rfl) (by simp) ?_
                refine AllReadyH.cons rfl (fun K hK => ?_) AllReadyH.nil
                go_simp
                refine hK.out _ _ ?_ (fun hHeld => ?_)
                · exact HROW.out _ (ext_alloc Tb robj)
                clear hK K
                (try simp only [Act.put]); (try simp only [List.setIfInBounds_toArray]); (try simp only [List.set_cons_succ]); (try simp only [List.set_cons_zero])
                refine wpAnyH_ready (rs := [12]) (by kernel_rfl) (by simp) ?_
                refine AllReadyH.cons rfl (fun K hK => ?_) AllReadyH.nil
                refine step_rowR rfl (.tmp 16) (.tmp 89) rfl _ zrow ys (RowAt.new wb zrow 32) zrow_len HPA1.out rfl rfl ?_
                refine hK.out _ _ ?_ (fun hHeld => ?_)
                · exact HROW.out _ (below_puts (ext_alloc Tb robj) Tb.size 0 _)
                clear hK K
                (try simp only [Act.put]); (try simp only [List.setIfInBounds_toArray]); (try simp only [List.set_cons_succ]); (try simp only [List.set_cons_zero])
                refine take_at (i := 13) (d := some 17) (v := ?_) rfl rfl (by kernel_rfl) (by kernel_rfl) (by kernel_rfl) (fun _ _ _ h => h) (Or.inl ⟨by rfl, ?hyb8⟩) (by assumption) ?restb8
                case hyb8 => (intro w hSw; (try dsimp only at hSw); go_simp; try with_reducible rfl)
                (try simp only [Act.put]); (try simp only [List.setIfInBounds_toArray]); (try simp only [List.set_cons_succ]); (try simp only [List.set_cons_zero])
                refine wpAnyH_done (by kernel_rfl) ?_ _
                go_wp2_with fail
                go_meet
                exact ⟨_, rfl, rfl, (RowAt.put (RowAt.new wb zrow 32) (by rw [HPA1.out, zrow_len])), (below_puts (ext_alloc Tb robj) Tb.size 0 _)⟩
              · go_simp
                refine hK.out _ _ ?_ (fun hHeld => ?_)
                · exact HROW.out _ (ext_alloc (ext_alloc Ta (.cells (twoRows r0 hx) 32)) robj)
                clear hK K
                (try simp only [Act.put]); (try simp only [List.setIfInBounds_toArray]); (try simp only [List.set_cons_succ]); (try simp only [List.set_cons_zero])
                refine wpAnyH_ready (rs := [7]) (by kernel_rfl) (by simp) ?_
                refine AllReadyH.cons rfl (fun K hK => ?_) AllReadyH.nil
                go_simp
                go_at_call 17
                refine (CB1.out _ _ ((RowsS.keep (RowsS.two wa r0 hx hr0.out HLX.out _ _ (Lib.hid (by first | rfl | simp))) (below_new _ robj)).more (below_new _ robj).size)).mono ?_
                rintro e wb ⟨rfl, hq⟩
                have Tb := ext_step (ext_alloc (ext_alloc Ta (.cells (twoRows r0 hx) 32)) robj) hq
                have Db := RowAt.below (RowAt.new1 wa (.cells (twoRows r0 hx) 32) zrow 32) hq
                clear hq
                try go_wp2_with fail
                refine hK.out _ _ ?_ (fun hHeld => ?_)
                · exact HROW.out _ Tb
                clear hK K
                (try simp only [Act.put]); (try simp only [List.setIfInBounds_toArray]); (try simp only [List.set_cons_succ]); (try simp only [List.set_cons_zero])
                refine take_at (i := 8) (d := some 80) (v := ?_) rfl rfl (by kernel_rfl) (by kernel_rfl) (by kernel_rfl) (fun _ _ _ h => h) (Or.inl ⟨by rfl, ?hyb9⟩) (by assumption) ?restb9
                case hyb9 => (intro w hSw; (try dsimp only at hSw); go_simp; try with_reducible rfl)
                (try simp only [Act.put]); (try simp only [List.setIfInBounds_toArray]); (try simp only [List.set_cons_succ]); (try simp only [List.set_cons_zero])
                refine take_at (i := 9) (d := some 89) (v := ?_) rfl rfl (by kernel_rfl) (by kernel_rfl) (by kernel_rfl) (fun _ _ _ h => h) (Or.inl ⟨by rfl, ?hyb10⟩) (by assumption) ?restb10
                case hyb10 => (intro w hSw; (try dsimp only at hSw); go_simp; try with_reducible rfl)
                (try simp only [Act.put]); (try simp only [List.setIfInBounds_toArray]); (try simp only [List.set_cons_succ]); (try simp only [List.set_cons_zero])
                refine take_at (i := 10) (d := some 90) (v := ?_) rfl rfl (by kernel_rfl) (by kernel_rfl) (by kernel_rfl) (fun _ _ _ h => h) (Or.inl ⟨by rfl, ?hyb11⟩) (by assumption) ?restb11
                case hyb11 => (intro w hSw; (try dsimp only at hSw); go_simp; try with_reducible rfl)
                (try simp only [Act.put]); (try simp only [List.setIfInBounds_toArray]); (try simp only [List.set_cons_succ]); (try simp only [List.set_cons_zero])
                refine wpAnyH_ready (rs := [12]) (by kernel_rfl) (by simp) ?_
                refine AllReadyH.cons rfl (fun K hK => ?_) AllReadyH.nil
                refine step_rowR rfl (.tmp 16) (.tmp 89) rfl _ zrow ys Db zrow_len HPA1.out rfl rfl ?_
                refine hK.out _ _ ?_ (fun hHeld => ?_)
                · exact HROW.out _ (below_puts Tb (Nat.le_succ_of_le Ta.size) 0 _)
                clear hK K
                (try simp only [Act.put]); (try simp only [List.setIfInBounds_toArray]); (try simp only [List.set_cons_succ]); (try simp only [List.set_cons_zero])
                refine take_at (i := 13) (d := some 17) (v := ?_) rfl rfl (by kernel_rfl) (by kernel_rfl) (by kernel_rfl) (fun _ _ _ h => h) (Or.inl ⟨by rfl, ?hyb12⟩) (by assumption) ?restb12
                case hyb12 => (intro w hSw; (try dsimp only at hSw); go_simp; try with_reducible rfl)
                (try simp only [Act.put]); (try simp only [List.setIfInBounds_toArray]); (try simp only [List.set_cons_succ]); (try simp only [List.set_cons_zero])
                refine wpAnyH_done (by kernel_rfl) ?_ _
                go_wp2_with fail
                go_meet
                exact ⟨_, rfl, rfl, (RowAt.put Db (by rw [HPA1.out, zrow_len])), (below_puts Tb (Nat.le_succ_of_le Ta.size) 0 _)⟩
            · go_simp
              refine hK.out _ _ ?_ (fun hHeld => ?_)
              · exact HROW.out _ (ext_alloc Ta robj)
              clear hK K
              (try simp only [Act.put]); (try simp only [List.setIfInBounds_toArray]); (try simp only [List.set_cons_succ]); (try simp only [List.set_cons_zero])
              refine wpAnyH_ready (rs := [6]) (by kernel_rfl) (by simp) ?_
              refine AllReadyH.cons rfl (fun K hK => ?_) AllReadyH.nil
              refine step_twoR rfl (.tmp 83) (.tmp 86) rfl r0 hx hr0.out HLX.out rfl rfl ?_
              refine hK.out _ _ ?_ (fun hHeld => ?_)
              · exact HROW.out _ (ext_alloc (ext_alloc Ta robj) (.cells (twoRows r0 hx) 32))
              clear hK K
              (try simp only [Act.put]); (try simp only [List.setIfInBounds_toArray]); (try simp only [List.set_cons_succ]); (try simp only [List.set_cons_zero])
              refine wpAnyH_ready (rs := [7]) (by kernel_rfl) (by simp) ?_
              refine AllReadyH.cons rfl (fun K hK => ?_) AllReadyH.nil
              go_simp
              go_at_call 17
              refine (CB1.out _ _ (RowsS.two (wa.alloc robj) r0 hx hr0.out HLX.out _ _ (Lib.hid (by first | rfl | simp)))).mono ?_
              rintro e wb ⟨rfl, hq⟩
              have Tb := ext_step (ext_alloc (ext_alloc Ta robj) (.cells (twoRows r0 hx) 32)) hq
              have Db := RowAt.below (RowAt.alloc (RowAt.new wa zrow 32) (.cells (twoRows r0 hx) 32)) hq
              clear hq
              try go_wp2_with fail
              refine hK.out _ _ ?_ (fun hHeld => ?_)
              · exact HROW.out _ Tb
              clear hK K
              (try simp only [Act.put]); (try simp only [List.setIfInBounds_toArray]); (try simp only [List.set_cons_succ]); (try simp only [List.set_cons_zero])
              refine take_at (i := 8) (d := some 80) (v := ?_) rfl rfl (by kernel_rfl) (by kernel_rfl) (by kernel_rfl) (fun _ _ _ h => h) (Or.inl ⟨by rfl, ?hyb13⟩) (by assumption) ?restb13
              case hyb13 => (intro w hSw; (try dsimp only at hSw); go_simp; try with_reducible rfl)
              (try simp only [Act.put]); (try simp only [List.setIfInBounds_toArray]); (try simp only [List.set_cons_succ]); (try simp only [List.set_cons_zero])
              refine take_at (i := 9) (d := some 89) (v := ?_) rfl rfl (by kernel_rfl) (by kernel_rfl) (by kernel_rfl) (fun _ _ _ h => h) (Or.inl ⟨by rfl, ?hyb14⟩) (by assumption) ?restb14
              case hyb14 => (intro w hSw; (try dsimp only at hSw); go_simp; try with_reducible rfl)
              (try simp only [Act.put]); (try simp only [List.setIfInBounds_toArray]); (try simp only [List.set_cons_succ]); (try simp only [List.set_cons_zero])
              refine take_at (i := 10) (d := some 90) (v := ?_) rfl rfl (by kernel_rfl) (by kernel_rfl) (by kernel_rfl) (fun _ _ _ h => h) (Or.inl ⟨by rfl, ?hyb15⟩) (by assumption) ?restb15
              case hyb15 => (intro w hSw; (try dsimp only at hSw); go_simp; try with_reducible rfl)
              (try simp only [Act.put]); (try simp only [List.setIfInBounds_toArray]); (try simp only [List.set_cons_succ]); (try simp only [List.set_cons_zero])
              refine wpAnyH_ready (rs := [12]) (by kernel_rfl) (by simp) ?_
              refine AllReadyH.cons rfl (fun K hK => ?_) AllReadyH.nil
              refine step_rowR rfl (.tmp 16) (.tmp 89) rfl _ zrow ys Db zrow_len HPA1.out rfl rfl ?_
              refine hK.out _ _ ?_ (fun hHeld => ?_)
              · exact HROW.out _ (below_puts Tb Ta.size 0 _)
              clear hK K
              (try simp only [Act.put]); (try simp only [List.setIfInBounds_toArray]); (try simp only [List.set_cons_succ]); (try simp only [List.set_cons_zero])
              refine take_at (i := 13) (d := some 17) (v := ?_) rfl rfl (by kernel_rfl) (by kernel_rfl) (by kernel_rfl) (fun _ _ _ h => h) (Or.inl ⟨by rfl, ?hyb16⟩) (by assumption) ?restb16
              case hyb16 => (intro w hSw; (try dsimp only at hSw); go_simp; try with_reducible rfl)
              (try simp only [Act.put]); (try simp only [List.setIfInBounds_toArray]); (try simp only [List.set_cons_succ]); (try simp only [List.set_cons_zero])
              refine wpAnyH_done (by kernel_rfl) ?_ _
              go_wp2_with fail
              go_meet
              exact ⟨_, rfl, rfl, (RowAt.put Db (by rw [HPA1.out, zrow_len])), (below_puts Tb Ta.size 0 _)⟩
          · go_simp
            refine hK.out _ _ ?_ (fun hHeld => ?_)
            · exact HROW.out _ (ext_alloc (ext_alloc hT0 (.cells #[.int .i64 x] 2)) robj)
            clear hK K
            (try simp only [Act.put]); (try simp only [List.setIfInBounds_toArray]); (try simp only [List.set_cons_succ]); (try simp only [List.set_cons_zero])
            refine wpAnyH_ready (rs := [5]) (by kernel_rfl) (by simp) ?_
            refine AllReadyH.cons rfl (fun K hK => ?_) AllReadyH.nil
            go_simp
            go_at_call 18
            refine (CX.out _ _ ((Lst.below (Lst.fresh W7.drew [x] 2 _ (Lib.hid (by first | rfl | simp))) (below_new _ robj)).more (below_new _ robj).size)).mono ?_
            rintro e wa ⟨rfl, hq⟩
            have Ta := ext_step (ext_alloc (ext_alloc hT0 (.cells #[.int .i64 x] 2)) robj) hq
            have Da := RowAt.below (RowAt.new1 W7.drew (.cells #[.int .i64 x] 2) zrow 32) hq
            clear hq
            try go_wp2_with fail
            refine hK.out _ _ ?_ (fun hHeld => ?_)
            · exact HROW.out _ Ta
            clear hK K
            (try simp only [Act.put]); (try simp only [List.setIfInBounds_toArray]); (try simp only [List.set_cons_succ]); (try simp only [List.set_cons_zero])
            refine wpAnyH_ready (rs := [6]) (by kernel_rfl) (by simp) ?_
            refine AllReadyH.cons rfl (fun K hK => ?_) AllReadyH.nil
            refine step_twoR rfl (.tmp 83) (.tmp 86) rfl r0 hx hr0.out HLX.out rfl rfl ?_
            refine hK.out _ _ ?_ (fun hHeld => ?_)
            · exact HROW.out _ (ext_alloc Ta (.cells (twoRows r0 hx) 32))
            clear hK K
            (try simp only [Act.put]); (try simp only [List.setIfInBounds_toArray]); (try simp only [List.set_cons_succ]); (try simp only [List.set_cons_zero])
            refine wpAnyH_ready (rs := [7]) (by kernel_rfl) (by simp) ?_
            refine AllReadyH.cons rfl (fun K hK => ?_) AllReadyH.nil
            go_simp
            go_at_call 17
            refine (CB1.out _ _ (RowsS.two wa r0 hx hr0.out HLX.out _ _ (Lib.hid (by first | rfl | simp)))).mono ?_
            rintro e wb ⟨rfl, hq⟩
            have Tb := ext_step (ext_alloc Ta (.cells (twoRows r0 hx) 32)) hq
            have Db := RowAt.below (RowAt.alloc Da (.cells (twoRows r0 hx) 32)) hq
            clear hq
            try go_wp2_with fail
            refine hK.out _ _ ?_ (fun hHeld => ?_)
            · exact HROW.out _ Tb
            clear hK K
            (try simp only [Act.put]); (try simp only [List.setIfInBounds_toArray]); (try simp only [List.set_cons_succ]); (try simp only [List.set_cons_zero])
            refine take_at (i := 8) (d := some 80) (v := ?_) rfl rfl (by kernel_rfl) (by kernel_rfl) (by kernel_rfl) (fun _ _ _ h => h) (Or.inl ⟨by rfl, ?hyb17⟩) (by assumption) ?restb17
            case hyb17 => (intro w hSw; (try dsimp only at hSw); go_simp; try with_reducible rfl)
            (try simp only [Act.put]); (try simp only [List.setIfInBounds_toArray]); (try simp only [List.set_cons_succ]); (try simp only [List.set_cons_zero])
            refine take_at (i := 9) (d := some 89) (v := ?_) rfl rfl (by kernel_rfl) (by kernel_rfl) (by kernel_rfl) (fun _ _ _ h => h) (Or.inl ⟨by rfl, ?hyb18⟩) (by assumption) ?restb18
            case hyb18 => (intro w hSw; (try dsimp only at hSw); go_simp; try with_reducible rfl)
            (try simp only [Act.put]); (try simp only [List.setIfInBounds_toArray]); (try simp only [List.set_cons_succ]); (try simp only [List.set_cons_zero])
            refine take_at (i := 10) (d := some 90) (v := ?_) rfl rfl (by kernel_rfl) (by kernel_rfl) (by kernel_rfl) (fun _ _ _ h => h) (Or.inl ⟨by rfl, ?hyb19⟩) (by assumption) ?restb19
            case hyb19 => (intro w hSw; (try dsimp only at hSw); go_simp; try with_reducible rfl)
            (try simp only [Act.put]); (try simp only [List.setIfInBounds_toArray]); (try simp only [List.set_cons_succ]); (try simp only [List.set_cons_zero])
            refine wpAnyH_ready (rs := [12]) (by kernel_rfl) (by simp) ?_
            refine AllReadyH.cons rfl (fun K hK => ?_) AllReadyH.nil
            refine step_rowR rfl (.tmp 16) (.tmp 89) rfl _ zrow ys Db zrow_len HPA1.out rfl rfl ?_
            refine hK.out _ _ ?_ (fun hHeld => ?_)
            · exact HROW.out _ (below_puts Tb (Nat.le_succ_of_le hT0.size) 0 _)
            clear hK K
            (try simp only [Act.put]); (try simp only [List.setIfInBounds_toArray]); (try simp only [List.set_cons_succ]); (try simp only [List.set_cons_zero])
            refine take_at (i := 13) (d := some 17) (v := ?_) rfl rfl (by kernel_rfl) (by kernel_rfl) (by kernel_rfl) (fun _ _ _ h => h) (Or.inl ⟨by rfl, ?hyb20⟩) (by assumption) ?restb20
            case hyb20 => (intro w hSw; (try dsimp only at hSw); go_simp; try with_reducible rfl)
            (try simp only [Act.put]); (try simp only [List.setIfInBounds_toArray]); (try simp only [List.set_cons_succ]); (try simp only [List.set_cons_zero])
            refine wpAnyH_done (by kernel_rfl) ?_ _
            go_wp2_with fail
            go_meet
            exact ⟨_, rfl, rfl, (RowAt.put Db (by rw [HPA1.out, zrow_len])), (below_puts Tb (Nat.le_succ_of_le hT0.size) 0 _)⟩
        · go_simp
          refine hK.out _ _ ?_ (fun hHeld => ?_)
          · exact HROW.out _ (ext_alloc hT0 robj)
          clear hK K
          (try simp only [Act.put]); (try simp only [List.setIfInBounds_toArray]); (try simp only [List.set_cons_succ]); (try simp only [List.set_cons_zero])
          refine wpAnyH_ready (rs := [4]) (by kernel_rfl) (by simp) ?_
          refine AllReadyH.cons rfl (fun K hK => ?_) AllReadyH.nil
          go_simp
          refine hK.out _ _ ?_ (fun hHeld => ?_)
          · exact HROW.out _ (ext_alloc (ext_alloc hT0 robj) (.cells #[.int .i64 x] 2))
          clear hK K
          (try simp only [Act.put]); (try simp only [List.setIfInBounds_toArray]); (try simp only [List.set_cons_succ]); (try simp only [List.set_cons_zero])
          refine wpAnyH_ready (rs := [5]) (by kernel_rfl) (by simp) ?_
          refine AllReadyH.cons rfl (fun K hK => ?_) AllReadyH.nil
          go_simp
          go_at_call 18
          refine (CX.out _ _ (Lst.fresh (W7.drew.alloc robj) [x] 2 _ (Lib.hid (by first | rfl | simp)))).mono ?_
          rintro e wa ⟨rfl, hq⟩
          have Ta := ext_step (ext_alloc (ext_alloc hT0 robj) (.cells #[.int .i64 x] 2)) hq
          have Da := RowAt.below (RowAt.alloc (RowAt.new W7.drew zrow 32) (.cells #[.int .i64 x] 2)) hq
          clear hq
          try go_wp2_with fail
          refine hK.out _ _ ?_ (fun hHeld => ?_)
          · exact HROW.out _ Ta
          clear hK K
          (try simp only [Act.put]); (try simp only [List.setIfInBounds_toArray]); (try simp only [List.set_cons_succ]); (try simp only [List.set_cons_zero])
          refine wpAnyH_ready (rs := [6]) (by kernel_rfl) (by simp) ?_
          refine AllReadyH.cons rfl (fun K hK => ?_) AllReadyH.nil
          refine step_twoR rfl (.tmp 83) (.tmp 86) rfl r0 hx hr0.out HLX.out rfl rfl ?_
          refine hK.out _ _ ?_ (fun hHeld => ?_)
          · exact HROW.out _ (ext_alloc Ta (.cells (twoRows r0 hx) 32))
          clear hK K
          (try simp only [Act.put]); (try simp only [List.setIfInBounds_toArray]); (try simp only [List.set_cons_succ]); (try simp only [List.set_cons_zero])
          refine wpAnyH_ready (rs := [7]) (by kernel_rfl) (by simp) ?_
          refine AllReadyH.cons rfl (fun K hK => ?_) AllReadyH.nil
          go_simp
          go_at_call 17
          refine (CB1.out _ _ (RowsS.two wa r0 hx hr0.out HLX.out _ _ (Lib.hid (by first | rfl | simp)))).mono ?_
          rintro e wb ⟨rfl, hq⟩
          have Tb := ext_step (ext_alloc Ta (.cells (twoRows r0 hx) 32)) hq
          have Db := RowAt.below (RowAt.alloc Da (.cells (twoRows r0 hx) 32)) hq
          clear hq
          try go_wp2_with fail
          refine hK.out _ _ ?_ (fun hHeld => ?_)
          · exact HROW.out _ Tb
          clear hK K
          (try simp only [Act.put]); (try simp only [List.setIfInBounds_toArray]); (try simp only [List.set_cons_succ]); (try simp only [List.set_cons_zero])
          refine take_at (i := 8) (d := some 80) (v := ?_) rfl rfl (by kernel_rfl) (by kernel_rfl) (by kernel_rfl) (fun _ _ _ h => h) (Or.inl ⟨by rfl, ?hyb21⟩) (by assumption) ?restb21
          case hyb21 => (intro w hSw; (try dsimp only at hSw); go_simp; try with_reducible rfl)
          (try simp only [Act.put]); (try simp only [List.setIfInBounds_toArray]); (try simp only [List.set_cons_succ]); (try simp only [List.set_cons_zero])
          refine take_at (i := 9) (d := some 89) (v := ?_) rfl rfl (by kernel_rfl) (by kernel_rfl) (by kernel_rfl) (fun _ _ _ h => h) (Or.inl ⟨by rfl, ?hyb22⟩) (by assumption) ?restb22
          case hyb22 => (intro w hSw; (try dsimp only at hSw); go_simp; try with_reducible rfl)
          (try simp only [Act.put]); (try simp only [List.setIfInBounds_toArray]); (try simp only [List.set_cons_succ]); (try simp only [List.set_cons_zero])
          refine take_at (i := 10) (d := some 90) (v := ?_) rfl rfl (by kernel_rfl) (by kernel_rfl) (by kernel_rfl) (fun _ _ _ h => h) (Or.inl ⟨by rfl, ?hyb23⟩) (by assumption) ?restb23
          case hyb23 => (intro w hSw; (try dsimp only at hSw); go_simp; try with_reducible rfl)
          (try simp only [Act.put]); (try simp only [List.setIfInBounds_toArray]); (try simp only [List.set_cons_succ]); (try simp only [List.set_cons_zero])
          refine wpAnyH_ready (rs := [12]) (by kernel_rfl) (by simp) ?_
          refine AllReadyH.cons rfl (fun K hK => ?_) AllReadyH.nil
          refine step_rowR rfl (.tmp 16) (.tmp 89) rfl _ zrow ys Db zrow_len HPA1.out rfl rfl ?_
          refine hK.out _ _ ?_ (fun hHeld => ?_)
          · exact HROW.out _ (below_puts Tb hT0.size 0 _)
          clear hK K
          (try simp only [Act.put]); (try simp only [List.setIfInBounds_toArray]); (try simp only [List.set_cons_succ]); (try simp only [List.set_cons_zero])
          refine take_at (i := 13) (d := some 17) (v := ?_) rfl rfl (by kernel_rfl) (by kernel_rfl) (by kernel_rfl) (fun _ _ _ h => h) (Or.inl ⟨by rfl, ?hyb24⟩) (by assumption) ?restb24
          case hyb24 => (intro w hSw; (try dsimp only at hSw); go_simp; try with_reducible rfl)
          (try simp only [Act.put]); (try simp only [List.setIfInBounds_toArray]); (try simp only [List.set_cons_succ]); (try simp only [List.set_cons_zero])
          refine wpAnyH_done (by kernel_rfl) ?_ _
          go_wp2_with fail
          go_meet
          exact ⟨_, rfl, rfl, (RowAt.put Db (by rw [HPA1.out, zrow_len])), (below_puts Tb hT0.size 0 _)⟩
      case rest =>
        obtain ⟨g16, rfl, rfl, R16, hT⟩ := hcut
        have hBe := HBT.out _ hT
        replace R14 := R14.below hT
        replace HC1 := Lib.hid (HROW.out _ hT)
        replace HC2 : Hid (wc.rangeAt b' o' (r0.map (Value.int .i64))) := Lib.hid fun i v hv => (hT.cell (p := ⟨b', o' + i, none⟩) hbw').trans (HC2.out i v hv)
        have hE1 := eql_row ys HPA1.out
        have hE2 := eql_row r0 hr0.out
        clear hT0 HBT HROW hT hB hbw hbw' CB1 CX
        go_upto_region 19 with fail
        refine wp_region_held_drew (S := fun w' => w'.rangeAt b14 0 (ys.map (Value.int .i64)) ∧ w'.rangeAt g16 0 (ys.map (Value.int .i64)) ∧ w'.rangeAt b' o' (r0.map (Value.int .i64)) ∧ w'.rangeAt b o (r0.map (Value.int .i64))) (by kernel_rfl) ?_ (fun hHeld => ?_)
        · exact ⟨RowAt.range (RowAt.drew R14), RowAt.range (RowAt.drew R16), HC2.out, HC1.out⟩
        refine take_at (i := 0) (d := some 91) (v := _) rfl rfl (by kernel_rfl) (by kernel_rfl) (by kernel_rfl) (fun _ _ _ h => h) (yieldsIf_load_mid (by rfl) _ (.tmp 14) rfl b14 0 rfl (ys.map (Value.int .i64)) _ (fun _ h => h.1) hu rfl (infoHl ys HPA1.out)) (by assumption) ?_
        (try simp only [Act.put]); (try simp only [List.setIfInBounds_toArray]); (try simp only [List.set_cons_succ]); (try simp only [List.set_cons_zero])
        refine take_at (i := 1) (d := some 92) (v := _) rfl rfl (by kernel_rfl) (by kernel_rfl) (by kernel_rfl) (fun _ _ _ h => h) (yieldsIf_load_mid (by rfl) _ (.tmp 16) rfl g16 0 rfl (ys.map (Value.int .i64)) _ (fun _ h => h.2.1) hu6 rfl (infoRl ys HPA1.out)) (by assumption) ?_
        (try simp only [Act.put]); (try simp only [List.setIfInBounds_toArray]); (try simp only [List.set_cons_succ]); (try simp only [List.set_cons_zero])
        refine take_at (i := 2) (d := some 93) (v := ?_) rfl rfl (by kernel_rfl) (by kernel_rfl) (by kernel_rfl) (fun _ _ _ h => h) (Or.inl ⟨by rfl, ?hyc3⟩) (by assumption) ?restc3
        case hyc3 => (intro w hSw; (try dsimp only at hSw); go_simp; try with_reducible rfl)
        (try simp only [Act.put]); (try simp only [List.setIfInBounds_toArray]); (try simp only [List.set_cons_succ]); (try simp only [List.set_cons_zero])
        refine take_at (i := 3) (d := some 94) (v := ?_) rfl rfl (by kernel_rfl) (by kernel_rfl) (by kernel_rfl) (fun _ _ _ h => h) (Or.inl ⟨by rfl, ?hyc4⟩) (by assumption) ?restc4
        case hyc4 => (intro w hSw; (try dsimp only at hSw); go_simp; try with_reducible rfl)
        (try simp only [Act.put]); (try simp only [List.setIfInBounds_toArray]); (try simp only [List.set_cons_succ]); (try simp only [List.set_cons_zero])
        refine take_at (i := 4) (d := some 95) (v := ?_) rfl rfl (by kernel_rfl) (by kernel_rfl) (by kernel_rfl) (fun _ _ _ h => h) (Or.inl ⟨by rfl, ?hyc5⟩) (by assumption) ?restc5
        case hyc5 => (intro w hSw; (try dsimp only at hSw); go_simp; try with_reducible rfl)
        (try simp only [Act.put]); (try simp only [List.setIfInBounds_toArray]); (try simp only [List.set_cons_succ]); (try simp only [List.set_cons_zero])
        refine take_at (i := 5) (d := some 96) (v := ?_) rfl rfl (by kernel_rfl) (by kernel_rfl) (by kernel_rfl) (fun _ _ _ h => h) (Or.inl ⟨by rfl, ?hyc6⟩) (by assumption) ?restc6
        case hyc6 => (intro w hSw; (try dsimp only at hSw); go_simp; try with_reducible rfl)
        (try simp only [Act.put]); (try simp only [List.setIfInBounds_toArray]); (try simp only [List.set_cons_succ]); (try simp only [List.set_cons_zero])
        refine take_at (i := 6) (d := some 97) (v := ?_) rfl rfl (by kernel_rfl) (by kernel_rfl) (by kernel_rfl) (fun _ _ _ h => h) (Or.inl ⟨by rfl, ?hyc7⟩) (by assumption) ?restc7
        case hyc7 => (intro w hSw; (try dsimp only at hSw); go_simp; try with_reducible rfl)
        (try simp only [Act.put]); (try simp only [List.setIfInBounds_toArray]); (try simp only [List.set_cons_succ]); (try simp only [List.set_cons_zero])
        refine take_at (i := 7) (d := some 98) (v := ?_) rfl rfl (by kernel_rfl) (by kernel_rfl) (by kernel_rfl) (fun _ _ _ h => h) (Or.inl ⟨by rfl, ?hyc8⟩) (by assumption) ?restc8
        case hyc8 => (intro w hSw; (try dsimp only at hSw); go_simp; try with_reducible rfl)
        (try simp only [Act.put]); (try simp only [List.setIfInBounds_toArray]); (try simp only [List.set_cons_succ]); (try simp only [List.set_cons_zero])
        refine take_at (i := 8) (d := some 99) (v := ?_) rfl rfl (by kernel_rfl) (by kernel_rfl) (by kernel_rfl) (fun _ _ _ h => h) (Or.inl ⟨by rfl, ?hyc9⟩) (by assumption) ?restc9
        case hyc9 => (intro w hSw; (try dsimp only at hSw); go_simp; try with_reducible rfl)
        (try simp only [Act.put]); (try simp only [List.setIfInBounds_toArray]); (try simp only [List.set_cons_succ]); (try simp only [List.set_cons_zero])
        refine take_at (i := 9) (d := some 100) (v := ?_) rfl rfl (by kernel_rfl) (by kernel_rfl) (by kernel_rfl) (fun _ _ _ h => h) (Or.inl ⟨by rfl, ?hyc10⟩) (by assumption) ?restc10
        case hyc10 => (intro w hSw; (try dsimp only at hSw); go_simp; try with_reducible rfl)
        (try simp only [Act.put]); (try simp only [List.setIfInBounds_toArray]); (try simp only [List.set_cons_succ]); (try simp only [List.set_cons_zero])
        refine take_at (i := 10) (d := some 101) (v := ?_) rfl rfl (by kernel_rfl) (by kernel_rfl) (by kernel_rfl) (fun _ _ _ h => h) (Or.inl ⟨by rfl, ?hyc11⟩) (by assumption) ?restc11
        case hyc11 => (intro w hSw; (try dsimp only at hSw); go_simp; try with_reducible rfl)
        (try simp only [Act.put]); (try simp only [List.setIfInBounds_toArray]); (try simp only [List.set_cons_succ]); (try simp only [List.set_cons_zero])
        refine take_at (i := 11) (d := some 102) (v := _) rfl rfl (by kernel_rfl) (by kernel_rfl) (by kernel_rfl) (fun _ _ _ h => h) (yieldsIf_load_mid (by rfl) _ (.tmp 101) rfl b' o' rfl (r0.map (Value.int .i64)) _ (fun _ h => h.2.2.1) hu rfl (infoHl r0 hr0.out)) (by assumption) ?_
        (try simp only [Act.put]); (try simp only [List.setIfInBounds_toArray]); (try simp only [List.set_cons_succ]); (try simp only [List.set_cons_zero])
        refine take_at (i := 12) (d := some 103) (v := ?_) rfl rfl (by kernel_rfl) (by kernel_rfl) (by kernel_rfl) (fun _ _ _ h => h) (Or.inl ⟨by rfl, ?hyc13⟩) (by assumption) ?restc13
        case hyc13 => (intro w hSw; (try dsimp only at hSw); go_simp; try with_reducible rfl)
        (try simp only [Act.put]); (try simp only [List.setIfInBounds_toArray]); (try simp only [List.set_cons_succ]); (try simp only [List.set_cons_zero])
        refine take_at (i := 13) (d := some 104) (v := ?_) rfl rfl (by kernel_rfl) (by kernel_rfl) (by kernel_rfl) (fun _ _ _ h => h) (Or.inl ⟨by rfl, ?hyc14⟩) (by assumption) ?restc14
        case hyc14 => (intro w hSw; (try dsimp only at hSw); go_simp; try with_reducible rfl)
        (try simp only [Act.put]); (try simp only [List.setIfInBounds_toArray]); (try simp only [List.set_cons_succ]); (try simp only [List.set_cons_zero])
        refine take_at (i := 14) (d := some 105) (v := _) rfl rfl (by kernel_rfl) (by kernel_rfl) (by kernel_rfl) (fun _ _ _ h => h) (yieldsIf_load_mid (by rfl) _ (.tmp 104) rfl b o rfl (r0.map (Value.int .i64)) _ (fun _ h => h.2.2.2) hu6 rfl (infoRl r0 hr0.out)) (by assumption) ?_
        (try simp only [Act.put]); (try simp only [List.setIfInBounds_toArray]); (try simp only [List.set_cons_succ]); (try simp only [List.set_cons_zero])
        refine take_at (i := 15) (d := some 106) (v := ?_) rfl rfl (by kernel_rfl) (by kernel_rfl) (by kernel_rfl) (fun _ _ _ h => h) (Or.inl ⟨by rfl, ?hyc16⟩) (by assumption) ?restc16
        case hyc16 => (intro w hSw; (try dsimp only at hSw); go_simp; try with_reducible rfl)
        (try simp only [Act.put]); (try simp only [List.setIfInBounds_toArray]); (try simp only [List.set_cons_succ]); (try simp only [List.set_cons_zero])
        refine take_at (i := 16) (d := some 107) (v := ?_) rfl rfl (by kernel_rfl) (by kernel_rfl) (by kernel_rfl) (fun _ _ _ h => h) (Or.inl ⟨by rfl, ?hyc17⟩) (by assumption) ?restc17
        case hyc17 => (intro w hSw; (try dsimp only at hSw); go_simp; try with_reducible rfl)
        (try simp only [Act.put]); (try simp only [List.setIfInBounds_toArray]); (try simp only [List.set_cons_succ]); (try simp only [List.set_cons_zero])
        refine take_at (i := 17) (d := some 6) (v := ?_) rfl rfl (by kernel_rfl) (by kernel_rfl) (by kernel_rfl) (fun _ _ _ h => h) (Or.inl ⟨by rfl, ?hyc18⟩) (by assumption) ?restc18
        case hyc18 => (intro w hSw; (try dsimp only at hSw); go_simp; try with_reducible rfl)
        (try simp only [Act.put]); (try simp only [List.setIfInBounds_toArray]); (try simp only [List.set_cons_succ]); (try simp only [List.set_cons_zero])
        refine wpAnyH_done (by kernel_rfl) ?_ _
        go_wp2_with fail
        go_ret
        exact ⟨rfl, hBe.drew⟩
end Go.Proofs.Ytmafkknnekkcdaa
