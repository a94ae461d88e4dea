/- Package hist on the landed code: Of and Rank, walked. -/
import Derived.Test.YtmafkknnekkcdaaHstT
import Derived.Test.YtmafkknnekkcdaaCmpW
import Derived.Deep.RegionWith
import Derived.Test.YtmafkknnekkcdaaTake
namespace Go.Proofs.Ytmafkknnekkcdaa
open Go.RowKit

set_option maxRecDepth 100000 in
set_option maxHeartbeats 4000000 in
theorem hOf_any (v : Value) (zs : List Int) (w : World) (hl : Lst w w.heap.size .i64 v zs) (hf : ∀ z ∈ zs, Fits z) (hn : zs.length ≤ 1000000) :
    Calls Try.prog 14 #[v] w fun e w' => e = .returned (rowV (histOf zs)) ∧ Below w.heap.size w w' := by
  obtain ⟨A, c, rfl⟩ := hl.len
  have hz0 := zeroH
  have hzl := Lib.hid zrow_len
  have R3 := (RowAt.new w zrow 33).alloc zobj
  have R2 := RowAt.new1 w zobj zrow 33
  have hB : Below w.heap.size w ((w.alloc zobj).alloc zobj) := (below_new w zobj).alloc (by simp) zobj
  have HZ : Hid (zrow = histOf []) := Lib.hid rfl
  unfold zobj at *
  generalize zrow = zr at *
  go_enter Try.func14, Try.ntmps14
  go_wp2_with fail
  generalize World.alloc _ _ = W at *
  have HL := Lib.hid hl
  have HF := Lib.hid hf
  have HN := Lib.hid hn
  clear hl hf hz0
  go_loopw [8] (fun i wr => ∃ k : Nat, k ≤ zs.length ∧ i = .int .i64 k ∧ Below w.heap.size w wr ∧ RowAt wr (w.heap.size + 1) (histOf (zs.take k)) ∧ RowAt wr w.heap.size zr) (fun i _ => zs.length - (intOf i).toNat)
  case atStart => exact ⟨0, Nat.zero_le _, rfl, hB, by rw [HZ.out] at R2; exact R2, R3⟩
  case round =>
    clear hB R2 R3
    obtain ⟨k, hk, rfl, hB, R2, R3⟩ := hrel
    by_cases hlt : k < zs.length
    · obtain ⟨A', c', e, _, hr⟩ := HL.out
      obtain ⟨ad, rfl, hb, hcell⟩ := hr (by omega)
      obtain rfl : A = some ad := by injection e
      clear e hr
      have c1 : wr.cell? (ad.add k) = some (.int .i64 zs[k]) := (hB.cell (by rw [block_of_add]; exact hb)).trans (hcell k hlt)
      have hz := HF.out zs[k] (List.getElem_mem hlt)
      have hbk := bktN_lt hz
      have CB := Lib.hid fun W => hBucket_any zs[k] W hz
      have HT : Hid (histOf (zs.take (k + 1)) = (histOf (zs.take k)).set (bktN zs[k]) (cntI (zs.take k) (bktN zs[k]) + 1)) := Lib.hid (by rw [List.take_succ_eq_append_getElem hlt, histOf_snoc])
      have hc := cntI_bd (zs.take k) (bktN zs[k])
      have hc2 : cntI (zs.take k) (bktN zs[k]) ≤ 1000000 := by have := HN.out; have h2 : (zs.take k).length ≤ k := List.length_take_le _ _; omega
      have hc1 := hc.1
      have HA : Hid (∀ W, RowAt W (w.heap.size + 1) (histOf (zs.take k)) → W.cell? ⟨w.heap.size + 1, bktN zs[k], none⟩ = some (.int .i64 (cntI (zs.take k) (bktN zs[k]))) ∧ W.frozen? ⟨w.heap.size + 1, bktN zs[k], none⟩ = false ∧ RowAt (W.setCell ⟨w.heap.size + 1, bktN zs[k], none⟩ (.int .i64 (cntI (zs.take k) (bktN zs[k]) + 1))) (w.heap.size + 1) (histOf (zs.take (k + 1)))) := Lib.hid fun W R => by
        have c2 := R.cell (bktN zs[k]) (by rw [histOf_length]; exact hbk)
        rw [histOf_at _ hbk] at c2
        refine ⟨c2, R.free (bktN zs[k]) (by rw [histOf_length]; exact hbk), ?_⟩
        rw [HT.out]
        exact R.set (k := bktN zs[k]) (by rw [histOf_length]; exact hbk) _
      clear hcell hb hc hz HT
      generalize cntI (zs.take k) (bktN zs[k]) = cn at *
      generalize bktN zs[k] = bk at *
      generalize zs[k] = z at *
      have i0 : (0 : Int) ≤ (bk : Int) := by omega
      have i1 : (bk : Int) < 65 := by omega
      go_wp2_with fail
      refine (CB.out _).mono ?_; rintro e w1 ⟨rfl, h⟩
      clear c1
      replace hB := ext_step hB h
      replace R2 := R2.below h
      replace R3 := R3.below h
      obtain ⟨c2, c3, hS⟩ := HA.out _ R2
      clear h CB HA
      go_wp2_with fail
      go_roundw
      case rel => exact ⟨k + 1, hlt, by go_num, ext_put hB (Nat.le_succ _) _, hS, R3.other (by simp) _⟩
      case measure => simp [intOf]; omega
    · obtain rfl : k = zs.length := by omega
      rw [List.take_length] at R2
      have hhl := histOf_length zs
      have H1 := Lib.hid (infoHl (histOf zs) hhl)
      have H2 := Lib.hid (infoHs (histOf zs) hhl)
      have H3 : Hid (World.there wr w.heap.size 0 (((histOf zs).map (Value.int .i64)).toArray).size) := Lib.hid (by have := R3.there; rw [hzl.out] at this; rw [rowsz _ hhl]; exact this)
      have R4 : RowAt (wr.setCells w.heap.size 0 (((histOf zs).map (Value.int .i64)).toArray).toList) w.heap.size (histOf zs) := R3.put (by rw [hhl, hzl.out])
      have hres := run_loadVar_mid (P := Try.prog) _ w.heap.size 0 33 _ _ R4.range Try.underlying33 rfl H1.out
      have hB4 := below_puts hB (Nat.le_refl _) 0 (((histOf zs).map (Value.int .i64)).toArray).toList
      have HR := Lib.hid R2.range
      have HRES := Lib.hid hres
      clear hhl R2 R3 R4 hB hres hlt hk
      have HHS : Hid (∀ hs, histOf zs = hs → Ending.returned (rowV hs) = .returned (rowV (histOf zs))) := Lib.hid fun hs h => by rw [h]
      generalize hhs : histOf zs = hs at H1 H2 H3 HR HRES hB4
      replace HHS := Lib.hid (HHS.out hs hhs)
      clear hhs
      go_wp2_with (first | (refine wpList_load_mid rfl _ (.tmp 3) rfl _ 0 rfl _ _ HR.out Try.underlying33 rfl H1.out ?_) | (refine wpList_store_mid rfl _ (.tmp 2) (.tmp 19) rfl _ 0 _ rfl rfl H3.out H2.out (row_one _) ?_))
      have hres := HRES.out
      exact bodyPost_ret (v := rowV hs) (by simp [results, Try.results14, asAddr, hres]) rfl ⟨HHS.out, hB4⟩

/-! Rank -/
theorem CellW.other {w : World} {b b' : Nat} {x : Int} (h : CellW w b x) (hb : b ≠ b') (u : Value) (i : Nat) : CellW (w.setCell ⟨b', i, none⟩ u) b x := by
  have e : ∀ j, (w.setCell ⟨b', i, none⟩ u).cell? ⟨b, j, none⟩ = w.cell? ⟨b, j, none⟩ := fun j => by
    rw [World.cell?_setCell_other _ _ _ _ (fun e => hb (by injection e with e1; exact e1.symm))]
  exact ⟨(e 0).trans h.1, (e 1).trans h.2⟩
def rankR (r : Int) : Value := .tuple #[.int .i64 (if 0 ≤ r then r else 0), .bool (decide (0 ≤ r))]
theorem rankR_no : rankR (-1) = .tuple #[.int .i64 0, .bool false] := rfl
theorem rankR_nat (k : Nat) : rankR (k : Int) = .tuple #[.int .i64 k, .bool true] := by
  unfold rankR
  rw [if_pos (by omega), decide_eq_true (by omega)]
theorem ret_rank {r : Int} {v : Value} (h : rankR r = v) : Ending.returned v = Ending.returned (rankR r) := by rw [h]

set_option maxRecDepth 100000 in
set_option maxHeartbeats 8000000 in
theorem hRank_two (hs : List Int) (x r : Int) (w : World) (hl : hs.length = 65) (hf : ∀ z ∈ hs, Fits z) (hx : Two x) (hr : r = if nonegB hs = false ∨ x < 0 then -1 else rankI hs x 0) :
    Calls Try.prog 24 #[rowV hs, .agg #[.int .i64 ((x) / 18446744073709551616), .int .u64 ((x) % 18446744073709551616)]] w fun e w' => e = .returned (rankR r) ∧ Below w.heap.size w w' := by
  have RH := (RowAt.new w hs 33).alloc (.cells #[.int .i64 (x / 18446744073709551616), .int .u64 (x % 18446744073709551616)] 47)
  have RK := CellW.new (w.alloc (.cells ((hs.map (Value.int .i64)).toArray) 33)) x 47
  rw [World.size_alloc] at RK
  have hB : Below w.heap.size w ((w.alloc (.cells ((hs.map (Value.int .i64)).toArray) 33)).alloc (.cells #[.int .i64 (x / 18446744073709551616), .int .u64 (x % 18446744073709551616)] 47)) := (below_new w _).alloc (by simp) _
  have HI := Lib.hid (infoHs hs hl)
  have hi := infoHl hs hl
  have hu := Try.underlying33
  have CV := Lib.hid fun W => hValid_any hs W hl
  have CO := Lib.hid fun W => ofW_any 0 (by decide) W
  have CC := Lib.hid fun W => cmpW_any x 0 W
  have HL := Lib.hid hl
  have HF := Lib.hid hf
  have HX := Lib.hid hx
  clear hl hf hx
  cases hng : nonegB hs with
  | false =>
    rw [hng] at CV
    have HQ : Hid (rankR r = .tuple #[.int .i64 0, .bool false]) := Lib.hid (by rw [hr, if_pos (Or.inl hng), rankR_no])
    clear hng hr
    go_enter Try.func24, Try.ntmps24
    go_upto_region 1 with fail
    generalize World.alloc _ (.cells #[.int .i64 (x / 18446744073709551616), .int .u64 (x % 18446744073709551616)] 47) = W at *
    have hB1 : Below w.heap.size w W.drew := ext_drew hB
    have R3 := RH.drew
    refine wp_region_held_drew (S := fun w' => w'.rangeAt w.heap.size 0 (hs.map (Value.int .i64))) (by kernel_rfl) ?_ (fun hHeld => ?_)
    · exact RowAt.range R3
    refine take_at (i := 0) (d := some 9) (v := _) rfl rfl (by kernel_rfl) (by kernel_rfl) (by kernel_rfl) (fun _ _ _ h => h) (yieldsIf_load_mid (by kernel_rfl) 33 _ rfl w.heap.size 0 rfl (hs.map (Value.int .i64)) _ (fun _ h => h) hu rfl hi) (by assumption) ?_
    (try simp only [Act.put]); (try simp only [List.setIfInBounds_toArray]); (try simp only [List.set_cons_succ]); (try simp only [List.set_cons_zero])
    refine wpAnyH_ready (rs := [1]) (by kernel_rfl) (by simp) ?_
    refine AllReadyH.cons rfl (fun K hK => ?_) AllReadyH.nil
    go_simp
    go_at_call 30
    refine (CV.out _).mono ?_
    rintro e w1 ⟨rfl, hq⟩
    have B1 := ext_step hB1 hq
    have R4 := RowAt.below R3 hq
    clear hq
    try go_wp2_with fail
    refine hK.out _ _ ?_ (fun hHeld => ?_)
    · exact RowAt.range R4
    clear hK K
    (try simp only [Act.put]); (try simp only [List.setIfInBounds_toArray]); (try simp only [List.set_cons_succ]); (try simp only [List.set_cons_zero])
    refine take_at (i := 2) (d := some 11) (v := ?_) rfl rfl (by kernel_rfl) (by kernel_rfl) (by kernel_rfl) (fun _ _ _ h => h) (Or.inl ⟨by rfl, ?hyf2⟩) (by assumption) ?restf2
    case hyf2 => (intro w hSw; (try dsimp only at hSw); go_simp; try with_reducible rfl)
    (try simp only [Act.put]); (try simp only [List.setIfInBounds_toArray]); (try simp only [List.set_cons_succ]); (try simp only [List.set_cons_zero])
    refine take_at (i := 3) (d := some 12) (v := ?_) rfl rfl (by kernel_rfl) (by kernel_rfl) (by kernel_rfl) (fun _ _ _ h => h) (Or.inl ⟨by rfl, ?hyf3⟩) (by assumption) ?restf3
    case hyf3 => (intro w hSw; (try dsimp only at hSw); go_simp; try with_reducible rfl)
    (try simp only [Act.put]); (try simp only [List.setIfInBounds_toArray]); (try simp only [List.set_cons_succ]); (try simp only [List.set_cons_zero])
    refine take_at (i := 4) (d := some 13) (v := undef) rfl rfl (by kernel_rfl) (by kernel_rfl) (by kernel_rfl) (fun _ _ _ h => h) (Or.inr ⟨by rfl, rfl⟩) (by assumption) ?_
    (try simp only [Act.put]); (try simp only [List.setIfInBounds_toArray]); (try simp only [List.set_cons_succ]); (try simp only [List.set_cons_zero])
    refine take_at (i := 5) (d := some 14) (v := undef) rfl rfl (by kernel_rfl) (by kernel_rfl) (by kernel_rfl) (fun _ _ _ h => h) (Or.inr ⟨by rfl, rfl⟩) (by assumption) ?_
    (try simp only [Act.put]); (try simp only [List.setIfInBounds_toArray]); (try simp only [List.set_cons_succ]); (try simp only [List.set_cons_zero])
    refine take_at (i := 6) (d := some 15) (v := undef) rfl rfl (by kernel_rfl) (by kernel_rfl) (by kernel_rfl) (fun _ _ _ h => h) (Or.inr ⟨by rfl, rfl⟩) (by assumption) ?_
    (try simp only [Act.put]); (try simp only [List.setIfInBounds_toArray]); (try simp only [List.set_cons_succ]); (try simp only [List.set_cons_zero])
    refine take_at (i := 7) (d := some 16) (v := undef) rfl rfl (by kernel_rfl) (by kernel_rfl) (by kernel_rfl) (fun _ _ _ h => h) (Or.inr ⟨by rfl, rfl⟩) (by assumption) ?_
    (try simp only [Act.put]); (try simp only [List.setIfInBounds_toArray]); (try simp only [List.set_cons_succ]); (try simp only [List.set_cons_zero])
    refine take_at (i := 8) (d := some 17) (v := ?_) rfl rfl (by kernel_rfl) (by kernel_rfl) (by kernel_rfl) (fun _ _ _ h => h) (Or.inl ⟨by rfl, ?hyf8⟩) (by assumption) ?restf8
    case hyf8 => (intro w hSw; (try dsimp only at hSw); go_simp; try with_reducible rfl)
    (try simp only [Act.put]); (try simp only [List.setIfInBounds_toArray]); (try simp only [List.set_cons_succ]); (try simp only [List.set_cons_zero])
    refine wpAnyH_done (by kernel_rfl) ?_ _
    go_wp2_with fail
    go_ret2
    exact ⟨ret_rank HQ.out, B1⟩
  | true =>
    rw [hng] at CV
    by_cases hneg : x < 0
    · have HO : Hid (ordI x 0 = -1) := Lib.hid (ordI_lt hneg)
      rw [HO.out] at CC
      have HQ : Hid (rankR r = .tuple #[.int .i64 0, .bool false]) := Lib.hid (by rw [hr, if_pos (Or.inr hneg), rankR_no])
      clear hng hneg hr
      go_enter Try.func24, Try.ntmps24
      go_upto_region 1 with fail
      generalize World.alloc _ (.cells #[.int .i64 (x / 18446744073709551616), .int .u64 (x % 18446744073709551616)] 47) = W at *
      have hB1 : Below w.heap.size w W.drew := ext_drew hB
      have R3 := RH.drew
      have K3 : CellW W.drew (w.heap.size + 1) x := ⟨RK.1, RK.2⟩
      go_region_held3 (fun w' => w'.rangeAt w.heap.size 0 (hs.map (Value.int .i64)) ∧ w'.cell? ⟨w.heap.size + 1, 0, none⟩ = some (.int .i64 (x / 18446744073709551616)) ∧ w'.cell? ⟨w.heap.size + 1, 1, none⟩ = some (.int .u64 (x % 18446744073709551616))) (first | exact ⟨R3.range, K3.1, K3.2⟩ | exact ⟨RH.range, RK.1, RK.2⟩)
        (first
          | (go_at_call 30; refine (CV.out _).mono ?_; rintro e w1 ⟨rfl, hq⟩; have hB1 := ext_step hB1 ⟨hq.os, hq.tape, hq.output, hq.size, hq.block⟩; have R3 := R3.below ⟨hq.os, hq.tape, hq.output, hq.size, hq.block⟩; have K3 := K3.below ⟨hq.os, hq.tape, hq.output, hq.size, hq.block⟩; clear hq)
          | (go_at_call 27; refine (CO.out _).mono ?_; rintro e w2 ⟨rfl, hq⟩; have hB1 := ext_step hB1 ⟨hq.os, hq.tape, hq.output, hq.size, hq.block⟩; have R3 := R3.below ⟨hq.os, hq.tape, hq.output, hq.size, hq.block⟩; have K3 := K3.below ⟨hq.os, hq.tape, hq.output, hq.size, hq.block⟩; clear hq)
          | (go_at_call 44; refine (CC.out _).mono ?_; rintro e w3 ⟨rfl, hq⟩; have hB1 := ext_step hB1 ⟨hq.os, hq.tape, hq.output, hq.size, hq.block⟩; have R3 := R3.below ⟨hq.os, hq.tape, hq.output, hq.size, hq.block⟩; have K3 := K3.below ⟨hq.os, hq.tape, hq.output, hq.size, hq.block⟩; clear hq))
      all_goals
        go_wp2_with fail
        go_ret2
        exact ⟨ret_rank HQ.out, hB1⟩
    · have HO : Hid (¬ ordI x 0 < 0) := Lib.hid (by
        rcases Int.lt_trichotomy x 0 with h | h | h
        · exact absurd h hneg
        · subst h; rw [ordI_eq]; decide
        · rw [ordI_gt h]; decide)
      have ho := HO.out
      have HE : Hid (r = rankI (hs.drop 0) (x - psum hs 0) 0) := Lib.hid (by rw [hr, if_neg (by rw [hng]; simp; omega), psum_zero, Int.sub_zero]; rfl)
      have HNG := Lib.hid hng
      generalize ordI x 0 = o at *
      clear hng hneg hr HO
      go_enter Try.func24, Try.ntmps24
      go_upto_region 1 with fail
      generalize World.alloc _ (.cells #[.int .i64 (x / 18446744073709551616), .int .u64 (x % 18446744073709551616)] 47) = W at *
      have hB1 : Below w.heap.size w W.drew := ext_drew hB
      have R3 := RH.drew
      have K3 : CellW W.drew (w.heap.size + 1) x := ⟨RK.1, RK.2⟩
      go_region_held3 (fun w' => w'.rangeAt w.heap.size 0 (hs.map (Value.int .i64)) ∧ w'.cell? ⟨w.heap.size + 1, 0, none⟩ = some (.int .i64 (x / 18446744073709551616)) ∧ w'.cell? ⟨w.heap.size + 1, 1, none⟩ = some (.int .u64 (x % 18446744073709551616))) (first | exact ⟨R3.range, K3.1, K3.2⟩ | exact ⟨RH.range, RK.1, RK.2⟩)
        (first
          | (go_at_call 30; refine (CV.out _).mono ?_; rintro e w1 ⟨rfl, hq⟩; have hB1 := ext_step hB1 ⟨hq.os, hq.tape, hq.output, hq.size, hq.block⟩; have R3 := R3.below ⟨hq.os, hq.tape, hq.output, hq.size, hq.block⟩; have K3 := K3.below ⟨hq.os, hq.tape, hq.output, hq.size, hq.block⟩; clear hq)
          | (go_at_call 27; refine (CO.out _).mono ?_; rintro e w2 ⟨rfl, hq⟩; have hB1 := ext_step hB1 ⟨hq.os, hq.tape, hq.output, hq.size, hq.block⟩; have R3 := R3.below ⟨hq.os, hq.tape, hq.output, hq.size, hq.block⟩; have K3 := K3.below ⟨hq.os, hq.tape, hq.output, hq.size, hq.block⟩; clear hq)
          | (go_at_call 44; refine (CC.out _).mono ?_; rintro e w3 ⟨rfl, hq⟩; have hB1 := ext_step hB1 ⟨hq.os, hq.tape, hq.output, hq.size, hq.block⟩; have R3 := R3.below ⟨hq.os, hq.tape, hq.output, hq.size, hq.block⟩; have K3 := K3.below ⟨hq.os, hq.tape, hq.output, hq.size, hq.block⟩; clear hq))
      all_goals
        replace R3 := R3.alloc (.cells #[.int .i64 0, .int .u64 0] 47)
        have HR := Lib.hid R3.range
        have hP := AtP.new w3 0 0 47
        have hne : w.heap.size + 1 ≠ w3.heap.size := Nat.ne_of_lt K3.lt
        have hge := hB1.size
        replace K3 := K3.alloc (.cells #[.int .i64 0, .int .u64 0] 47)
        replace hB1 := ext_alloc hB1 (.cells #[.int .i64 0, .int .u64 0] 47)
        go_wp2_with (refine wpList_load_mid rfl _ (.tmp 2) rfl _ 0 rfl _ _ HR.out hu rfl hi ?_)
        generalize w3.alloc (.cells #[.int .i64 0, .int .u64 0] 47) = W4 at *
        generalize w3.heap.size = gP at *
        clear HR R3 hi hu
        go_loopw [19] (fun i wr => ∃ k : Nat, k ≤ 65 ∧ i = .int .i64 k ∧ Hid (r = rankI (hs.drop k) (x - psum hs k) k) ∧ CellW wr (w.heap.size + 1) x ∧ AtP wr gP (psum hs k / 18446744073709551616) (psum hs k % 18446744073709551616) ∧ Below w.heap.size w wr) (fun i _ => 65 - (intOf i).toNat)
        case atStart => exact ⟨0, Nat.zero_le _, rfl, HE, K3, by rw [psum_zero]; exact hP, hB1⟩
        case round =>
          clear HE K3 hP hB1
          obtain ⟨k, hk, rfl, HE, K3, hP, hB1⟩ := hrel
          by_cases hlt : k < 65
          · have hkl : k < hs.length := by rw [HL.out]; exact hlt
            have hix := fun W => index_row hs HL.out k hlt _ rfl W
            have k0 : (0 : Int) ≤ (k : Int) := by omega
            have k1 : (k : Int) < 65 := by omega
            have hz := HF.out _ (List.getElem_mem hkl)
            have hps := psum_succ hs k hkl
            have b0 := psum_bd hs HF.out k (by omega)
            have b1 := psum_bd hs HF.out (k + 1) (by omega)
            have HN := Lib.hid (rank_next hkl (x - psum hs k))
            have ht : Two (psum hs k) := by rw [two_bd]; omega
            have ht' : Two (psum hs k + hs[k]) := by rw [two_bd, ← hps]; omega
            have CA := addW_any (psum hs k) hs[k] ht (two_of_long hz)
            rw [twoV_fit ht', twoE_fit ht', ← hps] at CA
            replace CA := Lib.hid CA
            have CK := Lib.hid (ofW_any hs[k] hz)
            have CC := Lib.hid fun W => cmpW_any x (psum hs (k + 1)) W
            have HQ1 : Hid (x < psum hs (k + 1) → r = (k : Int)) := Lib.hid fun h => HE.out.trans (HN.out.trans (if_pos (by omega)))
            have HQ2 : Hid (psum hs (k + 1) ≤ x → r = rankI (hs.drop (k + 1)) (x - psum hs (k + 1)) (k + 1)) := Lib.hid fun h => HE.out.trans (HN.out.trans ((if_neg (by omega)).trans (by rw [hps]; congr 1; omega)))
            clear hz hps b0 b1 ht ht' HE HN
            generalize hs[k] = z at *
            go_upto_region 7 with fail
            obtain ⟨p0, p1, f0, f1⟩ := id hP
            obtain ⟨q0, q1⟩ := id K3
            go_region_with (first
              | (go_at_call 27; refine (CK.out _).mono ?_; rintro e w4 ⟨rfl, hq⟩; have hB2 := ext_step hB1 ⟨hq.os, hq.tape, hq.output, hq.size, hq.block⟩; have hP2 : AtP w4 gP (psum hs k / 18446744073709551616) (psum hs k % 18446744073709551616) := hP.below ⟨hq.os, hq.tape, hq.output, hq.size, hq.block⟩; have K4 : CellW w4 (w.heap.size + 1) x := K3.below ⟨hq.os, hq.tape, hq.output, hq.size, hq.block⟩; clear hq; obtain ⟨a0, a1, a2, a3⟩ := id hP2)
              | (go_at_call 45; refine (CA.out _).mono ?_; rintro e w5 ⟨rfl, hq⟩; have hB3 := ext_step hB2 ⟨hq.os, hq.tape, hq.output, hq.size, hq.block⟩; have hP3 : AtP w5 gP (psum hs k / 18446744073709551616) (psum hs k % 18446744073709551616) := hP2.below ⟨hq.os, hq.tape, hq.output, hq.size, hq.block⟩; have K5 : CellW w5 (w.heap.size + 1) x := K4.below ⟨hq.os, hq.tape, hq.output, hq.size, hq.block⟩; clear hq; obtain ⟨d0, d1, d2, d3⟩ := id hP3))
            all_goals
              have hP4 := hP3.set_ (psum hs (k + 1) / 18446744073709551616) (psum hs (k + 1) % 18446744073709551616)
              have K6 := (K5.other hne (.int .i64 (psum hs (k + 1) / 18446744073709551616)) 0).other hne (.int .u64 (psum hs (k + 1) % 18446744073709551616)) 1
              have hB4 := ext_put (p := ⟨gP, 1, none⟩) (ext_put (p := ⟨gP, 0, none⟩) hB3 hge (.int .i64 (psum hs (k + 1) / 18446744073709551616))) hge (.int .u64 (psum hs (k + 1) % 18446744073709551616))
              generalize World.setCell _ _ _ = W6 at *
              obtain ⟨g0, g1, -, -⟩ := id hP4
              obtain ⟨m0, m1⟩ := id K6
              clear hP hP2 hP3 K3 K4 K5 hB1 hB2 hB3 CA CK
              generalize hp : psum hs (k + 1) = p at HQ1 HQ2 CC hP4 K6 hB4 g0 g1 ⊢
              replace hp := Lib.hid hp
              go_wp2_with fail
              refine (CC.out _).mono ?_; rintro e w6 ⟨rfl, h⟩
              replace hB4 := ext_step hB4 h
              replace hP4 := hP4.below h
              replace K6 := K6.below h
              clear h CC g0 g1 m0 m1
              by_cases hxp : x < p
              · have e1 : ordI x p < 0 := by rw [ordI_lt hxp]; decide
                have HQ : Hid (rankR r = .tuple #[.int .i64 k, .bool true]) := Lib.hid (by rw [HQ1.out hxp, rankR_nat])
                clear hxp
                generalize ordI x p = o2 at *
                go_wp2_with fail
                go_ret2
                exact ⟨ret_rank HQ.out, hB4⟩
              · have e1 : ¬ ordI x p < 0 := by
                  rcases Int.lt_trichotomy x p with h | h | h
                  · exact absurd h hxp
                  · subst h; rw [ordI_eq]; decide
                  · rw [ordI_gt h]; decide
                have HQ := HQ2.out (by omega)
                replace HQ := Lib.hid HQ
                clear hxp
                generalize ordI x p = o2 at *
                go_wp2_with fail
                go_roundw
                case rel => exact ⟨k + 1, hlt, by go_num, by rw [hp.out]; exact HQ, K6, by rw [hp.out]; exact hP4, hB4⟩
                case measure => simp [intOf]; omega
          · obtain rfl : k = 65 := by omega
            have HQ : Hid (rankR r = .tuple #[.int .i64 0, .bool false]) := Lib.hid (by rw [HE.out, List.drop_eq_nil_of_le (by have := HL.out; omega)]; exact rankR_no)
            clear HE
            go_wp2_with fail
            go_ret2
            exact ⟨ret_rank HQ.out, hB1⟩
end Go.Proofs.Ytmafkknnekkcdaa
