/- Law 5's HistOrder, walked from what it asks of package hist and package wide. -/
import Derived.Test.YtmafkknnekkcdaaHstOr
import Derived.Deep.RegionHeld3
namespace Go.Proofs.Ytmafkknnekkcdaa
open Go.RowKit

theorem takeS (xs : List Int) {k : Nat} (h : k < xs.length) (b : Nat) : lessI (xs.take (k + 1)) b = lessI (xs.take k) b + (if bktN xs[k] < b then 1 else 0) ∧ cntI (xs.take (k + 1)) b = cntI (xs.take k) b + (if bktN xs[k] = b then 1 else 0) := by
  rw [List.take_succ_eq_append_getElem h, lessI_snoc, cntI_snoc]; exact ⟨rfl, rfl⟩
theorem lessI_bd (zs : List Int) (b : Nat) : 0 ≤ lessI zs b ∧ lessI zs b ≤ zs.length := by
  unfold lessI
  have := List.countP_le_length (p := fun z => decide (bktN z < b)) (l := zs)
  omega

set_option maxRecDepth 100000 in
set_option maxHeartbeats 4000000 in
theorem histOrder_any (G : HistO) (v : Value) (zs : List Int) (w : World) (hl : Lst w w.heap.size .i64 v zs) (hf : ∀ z ∈ zs, Fits z) :
    Calls Try.prog 7 #[v] w fun e w' => e = .returned (.bool true) ∧ Below w.heap.size w w' := by
  obtain ⟨A, c, rfl⟩ := hl.len
  have C0 := Lib.hid G.alive
  have hB := Below.refl w.heap.size w
  by_cases hbig : 60 < zs.length
  · have hb1 : (60 : Int) < (zs.length : Int) := by omega
    clear G hl hf
    go_enter Try.func7, Try.ntmps7
    go_wp2_with fail
    refine (C0.out _).mono ?_; rintro e w0 ⟨rfl, h⟩
    replace hB := ext_step hB h
    go_wp2_with fail
    go_ret
    exact ⟨rfl, hB⟩
  · have hb1 : ¬ (60 : Int) < (zs.length : Int) := by omega
    have hn : zs.length ≤ 1000000 := by omega
    have C1 := Lib.hid fun W (h : Below w.heap.size w W) => G.of _ zs W ((hl.below h).more h.size) hf hn
    have CW := Lib.hid fun (n : Nat) W (h : n ≤ 1000000) => G.wide n W h
    have CB := Lib.hid fun (z : Int) W (h : Fits z) => G.bucket z W h
    have CR := Lib.hid fun (k : Nat) (hk : k < zs.length) => rank_in G hf hn hk
    have CO := Lib.hid fun W => rank_out G hf hn W
    have HHL := Lib.hid (histOf_length zs)
    have HF := Lib.hid hf
    have HN := Lib.hid hn
    have HL := Lib.hid hl
    have hzl := Lib.hid zrow_len
    have hz0 := zeroH
    clear G hl hf hn
    generalize hhs : histOf zs = hs at *
    clear hhs
    generalize zrow = zr at *
    go_enter Try.func7, Try.ntmps7
    go_wp2_with fail
    refine (C0.out _).mono ?_; rintro e w0 ⟨rfl, h⟩
    replace hB := ext_step hB h
    clear h
    go_wp2_with fail
    refine (C1.out _ hB).mono ?_; rintro e w1 ⟨rfl, h⟩
    replace hB := ext_step hB h
    clear h C0 C1
    have R1 := RowAt.new w1 zr 33
    have R2 := R1.put (ys := hs) (by rw [HHL.out, hzl.out])
    have RT : Hid (World.there (w1.alloc (.cells ((zr.map (Value.int .i64)).toArray) 33)) w1.heap.size 0 ((hs.map (Value.int .i64)).toArray).size) := Lib.hid (by have := R1.there; rw [hzl.out] at this; simpa [HHL.out] using this)
    have HI : Hid ((Try.prog.info? 33).map (·.size) = some ((hs.map (Value.int .i64)).toArray).size) := Lib.hid (by rw [infoH]; simp [HHL.out])
    have HI2 : Hid ((Try.prog.info? 33).map (·.size) = some (hs.map (Value.int .i64)).length) := Lib.hid (by rw [infoH, List.length_map, HHL.out])
    replace hB := below_puts (hB.alloc hB.size (.cells ((zr.map (Value.int .i64)).toArray) 33)) hB.size 0 ((hs.map (Value.int .i64)).toArray).toList
    clear R1
    go_wp2_with (refine wpList_store_mid rfl _ (.tmp 3) (.tmp 19) rfl _ 0 _ rfl rfl RT.out HI.out (row_one _) ?_)
    generalize World.setCells _ _ _ _ = W at *
    generalize w1.heap.size = gH at *
    clear RT HI hz0
    go_loopw [4] (fun i wr => ∃ k : Nat, k ≤ zs.length ∧ i = .int .i64 k ∧ Below w.heap.size w wr ∧ RowAt wr gH hs) (fun i _ => zs.length - (intOf i).toNat)
    case atStart => exact ⟨0, Nat.zero_le _, rfl, hB, R2⟩
    case round =>
      clear hB R2
      obtain ⟨k, hk, rfl, hB, R2⟩ := hrel
      have HR := Lib.hid R2.range
      by_cases hlt : k < zs.length
      · obtain ⟨b, hb, HX, HY, CRK⟩ := CR.out k hlt
        replace CRK := Lib.hid CRK
        replace HX := Lib.hid HX
        replace HY := Lib.hid HY
        have hk6 : (k : Int) < (zs.length : Int) := by omega
        have hu := Try.underlying33
        have hi := HI2.out
        have hB1 : Below w.heap.size w wr.drew := ext_drew hB
        have R3 := R2.drew
        go_upto_region 9 with fail
        go_region_held3 (fun w' => w'.rangeAt gH 0 (hs.map (Value.int .i64))) (first | exact R2.range | exact R3.range)
          (first
            | (go_at_call 27; refine (CW.out k _ (by omega)).mono ?_; rintro e w2 ⟨rfl, hq⟩; have hB1 := ext_step hB1 ⟨hq.os, hq.tape, hq.output, hq.size, hq.block⟩; have R3 := R3.below ⟨hq.os, hq.tape, hq.output, hq.size, hq.block⟩; clear hq)
            | (go_at_call 24; refine (CRK.out _).mono ?_; rintro e w3 ⟨rfl, hq⟩; have hB1 := ext_step hB1 ⟨hq.os, hq.tape, hq.output, hq.size, hq.block⟩; have R3 := R3.below ⟨hq.os, hq.tape, hq.output, hq.size, hq.block⟩; clear hq))
        all_goals
          go_wp2_with fail
          go_loopw [7, 8, 9] (fun le sa i wr => ∃ l : Nat, l ≤ zs.length ∧ le = .int .i64 (lessI (zs.take l) b) ∧ sa = .int .i64 (cntI (zs.take l) b) ∧ i = .int .i64 l ∧ Below w.heap.size w wr ∧ RowAt wr gH hs) (fun _ _ i _ => zs.length - (intOf i).toNat)
          case atStart => exact ⟨0, Nat.zero_le _, by rw [List.take_zero, lessI_nil], by rw [List.take_zero, cntI_nil], rfl, hB1, R3⟩
          case round =>
            clear hB1 R3
            obtain ⟨l, hl, rfl, rfl, rfl, hB2, R4⟩ := hrel
            by_cases hlt2 : l < zs.length
            · obtain ⟨A', c', e, _, hr⟩ := HL.out
              obtain ⟨ad, rfl, hab, hcell⟩ := hr (by omega)
              obtain rfl : A = some ad := by injection e
              clear e hr
              have c1 : _ = _ := (hB2.cell (by rw [block_of_add]; exact hab)).trans (hcell l hlt2)
              have CBK := Lib.hid fun W => CB.out zs[l] W (HF.out zs[l] (List.getElem_mem hlt2))
              have HT := Lib.hid (takeS zs hlt2 b)
              have l1 := lessI_bd (zs.take l) b
              have s1 := cntI_bd (zs.take l) b
              have hle : (zs.take l).length ≤ 60 := by have := List.length_take_le l zs; omega
              have l2 : lessI (zs.take l) b ≤ 60 := by omega
              have s2 : cntI (zs.take l) b ≤ 60 := by omega
              have l3 := l1.1
              have s3 := s1.1
              have i0 : (0 : Int) ≤ (l : Int) := by omega
              have i1 : (l : Int) < (zs.length : Int) := by omega
              clear hcell l1 s1 hle hi hu HR
              generalize lessI (zs.take l) b = le at *
              generalize cntI (zs.take l) b = sa at *
              generalize hbk : bktN zs[l] = bk at *
              generalize zs[l] = z at *
              go_wp2_with fail
              refine (CBK.out _).mono ?_; rintro e w4 ⟨rfl, h⟩
              replace hB2 := ext_step hB2 h
              replace R4 := R4.below h
              clear h
              rcases Nat.lt_trichotomy bk b with hc | hc | hc
              · have hc1 : (bk : Int) < (b : Int) := by omega
                have hc2 : ¬ (bk : Int) = (b : Int) := by omega
                have T1 := HT.out.1
                have T2 := HT.out.2
                rw [if_pos hc] at T1
                rw [if_neg (by omega), Int.add_zero] at T2
                replace T1 := Lib.hid T1
                replace T2 := Lib.hid T2
                go_wp2_with fail
                go_roundw
                case rel => exact ⟨l + 1, hlt2, by rw [T1.out], by rw [T2.out], by go_num, hB2, R4⟩
                case measure => simp [intOf]; omega
              · have hc1 : ¬ (bk : Int) < (b : Int) := by omega
                have T1 := HT.out.1
                have T2 := HT.out.2
                rw [if_neg (by omega), Int.add_zero] at T1
                rw [if_pos hc] at T2
                replace T1 := Lib.hid T1
                replace T2 := Lib.hid T2
                have hc2 : (bk : Int) = (b : Int) := by omega
                clear hc
                go_wp2_with fail
                go_roundw
                case rel => exact ⟨l + 1, hlt2, by rw [T1.out], by rw [T2.out], by go_num, hB2, R4⟩
                case measure => simp [intOf]; omega
              · have hc1 : ¬ (bk : Int) < (b : Int) := by omega
                have hc2 : ¬ (bk : Int) = (b : Int) := by omega
                have T1 := HT.out.1
                have T2 := HT.out.2
                rw [if_neg (by omega), Int.add_zero] at T1
                rw [if_neg (by omega), Int.add_zero] at T2
                replace T1 := Lib.hid T1
                replace T2 := Lib.hid T2
                go_wp2_with fail
                go_roundw
                case rel => exact ⟨l + 1, hlt2, by rw [T1.out], by rw [T2.out], by go_num, hB2, R4⟩
                case measure => simp [intOf]; omega
            · obtain rfl : l = zs.length := by omega
              have l1 := lessI_bd zs b
              have s1 := cntI_bd zs b
              rw [List.take_length]
              have x1 := HX.out
              have x2 := HY.out
              generalize lessI zs b = le at *
              generalize cntI zs b = sa at *
              have q1 : ¬ (k : Int) < le := by omega
              have q2 : ¬ le + sa ≤ (k : Int) := by omega
              clear hu hi HR
              go_wp2_with fail
              go_roundw
              case rel => exact ⟨k + 1, hlt, by go_num, hB2, R4⟩
              case measure => simp [intOf]; omega
      · obtain rfl : k = zs.length := by omega
        have hu := Try.underlying33
        have hi := HI2.out
        have hB1 : Below w.heap.size w wr.drew := ext_drew hB
        have R3 := R2.drew
        have hn6 : zs.length ≤ 1000000 := by omega
        go_upto_region 22 with fail
        go_region_held3 (fun w' => w'.rangeAt gH 0 (hs.map (Value.int .i64))) (first | exact R2.range | exact R3.range)
          (first
            | (go_at_call 27; refine (CW.out zs.length _ hn6).mono ?_; rintro e w2 ⟨rfl, hq⟩; have hB1 := ext_step hB1 ⟨hq.os, hq.tape, hq.output, hq.size, hq.block⟩; have R3 := R3.below ⟨hq.os, hq.tape, hq.output, hq.size, hq.block⟩; clear hq)
            | (go_at_call 24; refine (CO.out _).mono ?_; rintro e w3 ⟨rfl, hq⟩; have hB1 := ext_step hB1 ⟨hq.os, hq.tape, hq.output, hq.size, hq.block⟩; have R3 := R3.below ⟨hq.os, hq.tape, hq.output, hq.size, hq.block⟩; clear hq))
        all_goals
          go_wp2_with fail
          go_ret
          exact ⟨rfl, hB1⟩
end Go.Proofs.Ytmafkknnekkcdaa
