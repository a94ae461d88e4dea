/- Law 3's GapLists, walked from package gap's contracts. -/
import Derived.Test.YthkeofpmappdhaaGapC
import Derived.Test.YthkeofpmappdhaaAppendV
import Derived.Deep.QuietTactic
import Derived.BigQuiet
namespace Go.Proofs.Ythkeofpmappdhaa
open Go.RowKit

theorem Gaps.src {w w' : World} {B : Nat} {A : Option Addr} {n c : Nat} {gs : List (Int × Int)} (h : Gaps w B (.slice A n c) gs) (hk : ∀ p : Addr, p.block < B → w'.cell? p = w.cell? p) : SrcV w' A gs.length (cellsG gs) := by
  obtain ⟨A', c', e, _, hr⟩ := h
  injection e with e1 e2 e3
  subst e1
  intro hn
  obtain ⟨ad, ea, hb, hc⟩ := hr hn
  refine ⟨ad, ea, fun j u hu => ?_⟩
  have hj := (List.getElem?_eq_some_iff.1 hu).1
  rw [cellsG_length] at hj
  obtain ⟨i, hi, hij⟩ : ∃ i, i < gs.length ∧ (j = i * 2 ∨ j = i * 2 + 1) := ⟨j / 2, by omega, by omega⟩
  obtain ⟨k1, k2⟩ := cellsG_at gs i hi
  rw [hk _ (by rw [block_of_add]; exact hb)]
  rcases hij with rfl | rfl
  · rw [k1] at hu; injection hu with hu; subst hu; exact (hc i hi).1
  · rw [k2] at hu; injection hu with hu; subst hu; exact (hc i hi).2
theorem Gaps.at_ {w : World} {B : Nat} {A : Option Addr} {n c : Nat} {gs : List (Int × Int)} (h : Gaps w B (.slice A n c) gs) (hn : 0 < gs.length) :
    ∃ ad, A = some ad ∧ ad.block < B ∧ ∀ j (h : j < gs.length), w.cell? (ad.add (j * 2)) = some (.int .i64 gs[j].1) ∧ w.cell? (ad.add (j * 2 + 1)) = some (.int .i64 gs[j].2) := by
  obtain ⟨A', c', e, _, hr⟩ := h
  injection e with e1 e2 e3
  subst e1
  exact hr hn
theorem cellsG_one (gs : List (Int × Int)) : ∀ u ∈ cellsG gs, u.oneCell' = true := by
  intro u hu
  unfold cellsG at hu
  obtain ⟨g, _, hg⟩ := List.mem_flatMap.1 hu
  simp at hg
  rcases hg with rfl | rfl <;> rfl
theorem own_info : (Try.prog.info? 23).map (fun i => (i.zero, i.size, i.bytes)) = some (some (.agg #[.int .i64 0, .int .i64 0]), 2, 16) := by kernel_rfl
theorem own_made {t : TypeId} {w w1 w2 : World} {v2 : Value} {gs : List (Int × Int)} {n : Nat} (hn : n = gs.length) (hB : Below w.heap.size w w1) (h : w2.ownsRow w1.heap.size t 2 v2 (0 + n) ([] ++ cellsG gs)) (hg : (w1.alloc (.cells #[] t)).grownBy w2 (Value.slice (some ⟨w1.heap.size, 0, none⟩) 0 0).ownBlock) :
    Gaps w2 w2.heap.size v2 gs ∧ Below w.heap.size w w2 := by
  subst hn
  have h' : OwnG t w2 w1.heap.size v2 gs := by unfold OwnG; simpa using h
  exact ⟨h'.gaps, hB.trans (((below_new w1 (.cells #[] t)).grown hg (by simp) (fun j hj => ((OwnG.empty t w1).lt j hj).1)).mono hB.size)⟩

set_option maxRecDepth 100000 in
set_option maxHeartbeats 8000000 in
theorem gapLists_any (G : GapC) (v : Value) (gs : List (Int × Int)) (w : World) (hl : Gaps w w.heap.size v gs) (hf : ∀ g ∈ gs, Fits g.1 ∧ Fits g.2) (hbig : gs.length ≤ 9223372036854775807) :
    Calls Try.prog 4 #[v] w fun e w' => e = .returned (.bool true) ∧ Below w.heap.size w w' := by
  have CAL := Lib.hid (alive3_any G)
  have HL := Lib.hid hl
  obtain ⟨A, c, rfl⟩ := hl.len
  by_cases h100 : 100 < gs.length
  · have h100' : 100 < (gs.length : Int) := by omega
    clear hl hf G
    go_enter Try.func4, Try.ntmps4
    go_wp2_with fail
    refine (CAL.out _).mono ?_; rintro e w1 ⟨rfl, h1⟩
    go_wp2_with fail
    go_ret
    exact ⟨rfl, h1⟩
  have h100' : ¬ 100 < (gs.length : Int) := by omega
  have CM := Lib.hid fun (u : Value) (W : World) (h : Gaps W W.heap.size u gs) => G.meet u gs W h hf (by omega)
  have CH := Lib.hid fun (u : Value) (W : World) (h : Gaps W W.heap.size u gs) => G.hull u gs W h hf (by omega)
  have CP := Lib.hid fun (u : Value) (W : World) (h : Gaps W W.heap.size u gs) => rMeet_any u gs W h (by omega)
  have CQ := Lib.hid fun (u : Value) (W : World) (h : Gaps W W.heap.size u gs) => rHull_any u gs W h (by omega)
  have CA := Lib.hid fun (W : World) (h : Gaps W W.heap.size (.slice A gs.length c) gs) => all3_any _ gs W h (by omega)
  have CF := Lib.hid fun a b W => of3_any a b W
  unfold GapE at CM CH CP CQ
  generalize meetI gs = mr at *
  generalize hullI gs = hr at *
  obtain ⟨m1, m2, m3⟩ := mr
  obtain ⟨p1, p2, p3⟩ := hr
  dsimp only at CM CH CP CQ
  clear hl hf G
  obtain ⟨i0, hi, hz0, hz1, hz2⟩ := info_parts own_info
  go_enter Try.func4, Try.ntmps4
  go_wp2_with fail
  refine (CAL.out _).mono ?_; rintro e w1 ⟨rfl, h1⟩
  have SRC := Lib.hid (HL.out.src (w' := w1.alloc (.cells #[] 23)) (fun p hp => ((below_new w1 _).cell (Nat.lt_of_lt_of_le hp h1.size)).trans (h1.cell hp)))
  go_wp2_with (at_builtin; go_must (refine wpList_append_cells _ rfl (.tmp 18) (.tmp 19) 43 rfl w1.heap.size 23 i0 (.agg #[.int .i64 0, .int .i64 0]) 2 16 Try.underlying43 hi hz0 hz1 hz2 rfl (by decide) _ 0 [] rfl (OwnG.empty _ w1) A gs.length c (cellsG gs) rfl (cellsG_length gs) SRC.out (cellsG_one gs) (by unfold maxLen; omega) (by omega) (by simp) ?_); intro v2 w2 hown2 hgrow2)
  obtain ⟨hG, hBL⟩ := own_made rfl h1 hown2 hgrow2
  clear hown2 hgrow2 SRC h1 hz0 hz1 hz2 hi
  obtain ⟨A2, c2, rfl⟩ := hG.len
  go_wp2_with fail
  refine (CM.out _ w2 hG).mono ?_; rintro e w3 ⟨rfl, h⟩
  replace hG := ((hG.below h).more h.size).below (below_new _ (.cells #[.int .i64 m1, .int .i64 m2] 23)) |>.more (below_new _ (.cells #[.int .i64 m1, .int .i64 m2] 23)).size
  replace hBL := ext_alloc (ext_step hBL h) (.cells #[.int .i64 m1, .int .i64 m2] 23); clear h
  have hM := At2.new w3 (.int .i64 m1) (.int .i64 m2) 23
  generalize hgM : w3.heap.size = gM at hM
  go_wp2_with fail
  generalize w3.alloc (.cells #[.int .i64 m1, .int .i64 m2] 23) = W3 at *
  refine (CH.out _ W3 hG).mono ?_; rintro e w4 ⟨rfl, h⟩
  replace hG := ((hG.below h).more h.size).below (below_new _ (.cells #[.int .i64 p1, .int .i64 p2] 23)) |>.more (below_new _ (.cells #[.int .i64 p1, .int .i64 p2] 23)).size
  replace hM := (hM.below h).alloc (.cells #[.int .i64 p1, .int .i64 p2] 23)
  replace hBL := ext_alloc (ext_step hBL h) (.cells #[.int .i64 p1, .int .i64 p2] 23); clear h
  have hH := At2.new w4 (.int .i64 p1) (.int .i64 p2) 23
  generalize hgH : w4.heap.size = gH at hH
  go_wp2_with fail
  generalize w4.alloc (.cells #[.int .i64 p1, .int .i64 p2] 23) = W4 at *
  refine (CA.out W4 ((HL.out.below hBL).more hBL.size)).mono ?_; rintro e w5 ⟨u5, rfl, ho5, h⟩
  replace hG := (hG.below h).more h.size
  replace hM := hM.below h
  replace hH := hH.below h
  replace hBL := ext_step hBL h; clear h
  go_wp2_with fail
  refine (CP.out u5 w5 ho5.gaps).mono ?_; rintro e w6 ⟨rfl, h⟩
  clear ho5
  replace hG := ((hG.below h).more h.size).below (below_new _ (.cells #[.int .i64 m1, .int .i64 m2] 31)) |>.more (below_new _ (.cells #[.int .i64 m1, .int .i64 m2] 31)).size
  replace hM := (hM.below h).alloc (.cells #[.int .i64 m1, .int .i64 m2] 31)
  replace hH := (hH.below h).alloc (.cells #[.int .i64 m1, .int .i64 m2] 31)
  replace hBL := ext_alloc (ext_step hBL h) (.cells #[.int .i64 m1, .int .i64 m2] 31); clear h
  have hC := At2.new w6 (.int .i64 m1) (.int .i64 m2) 31
  generalize hgC : w6.heap.size = gC at hC
  go_wp2_with fail
  generalize w6.alloc (.cells #[.int .i64 m1, .int .i64 m2] 31) = W6 at *
  refine (CA.out W6 ((HL.out.below hBL).more hBL.size)).mono ?_; rintro e w7 ⟨u7, rfl, ho7, h⟩
  replace hG := (hG.below h).more h.size
  replace hM := hM.below h
  replace hH := hH.below h
  replace hC := hC.below h
  replace hBL := ext_step hBL h; clear h
  go_wp2_with fail
  refine (CQ.out u7 w7 ho7.gaps).mono ?_; rintro e w8 ⟨rfl, h⟩
  clear ho7
  replace hG := ((hG.below h).more h.size).below (below_new _ (.cells #[.int .i64 p1, .int .i64 p2] 31)) |>.more (below_new _ (.cells #[.int .i64 p1, .int .i64 p2] 31)).size
  replace hM := (hM.below h).alloc (.cells #[.int .i64 p1, .int .i64 p2] 31)
  replace hH := (hH.below h).alloc (.cells #[.int .i64 p1, .int .i64 p2] 31)
  replace hC := (hC.below h).alloc (.cells #[.int .i64 p1, .int .i64 p2] 31)
  replace hBL := ext_alloc (ext_step hBL h) (.cells #[.int .i64 p1, .int .i64 p2] 31); clear h
  have hD := At2.new w8 (.int .i64 p1) (.int .i64 p2) 31
  generalize hgD : w8.heap.size = gD at hD
  go_wp2_with fail
  change Code.wp _ _ _ _ (w8.alloc (.cells #[.int .i64 p1, .int .i64 p2] 31))
  generalize w8.alloc (.cells #[.int .i64 p1, .int .i64 p2] 31) = W8 at *
  clear CAL CM CH CP CQ CA
  have H2 := Lib.hid hG
  have HB := Lib.hid hBL
  clear hG hBL
  go_loopw [12] (fun i wr => ∃ k : Nat, k ≤ gs.length ∧ i = .int .i64 k ∧ Below W8.heap.size W8 wr) (fun i _ => gs.length - (intOf i).toNat)
  case atStart => exact ⟨0, Nat.zero_le _, rfl, Below.refl _ _⟩
  case round =>
    obtain ⟨k, hk, rfl, hB⟩ := hrel
    rename_i wr _ _
    by_cases hlt : k < gs.length
    · obtain ⟨ad, rfl, hb, hcell⟩ := HL.out.at_ (by omega)
      obtain ⟨ad2, rfl, hb2, hcell2⟩ := H2.out.at_ (by omega)
      have c1 : _ = _ := (hB.cell (by rw [block_of_add]; exact Nat.lt_of_lt_of_le hb HB.out.size)).trans ((HB.out.cell (by rw [block_of_add]; exact hb)).trans (hcell k hlt).1)
      have c2 : _ = _ := (hB.cell (by rw [block_of_add]; exact Nat.lt_of_lt_of_le hb HB.out.size)).trans ((HB.out.cell (by rw [block_of_add]; exact hb)).trans (hcell k hlt).2)
      have c3 : _ = _ := (hB.cell (by rw [block_of_add]; exact hb2)).trans (hcell2 k hlt).1
      have c4 : _ = _ := (hB.cell (by rw [block_of_add]; exact hb2)).trans (hcell2 k hlt).2
      rw [add_succ] at c2 c4
      clear hcell hcell2 hb hb2
      generalize gs[k].1 = a at *
      generalize gs[k].2 = b at *
      go_wp2_with fail
      go_quiet (fail)
      go_wp2_with fail
      go_roundw
      case rel =>
        exact ⟨k + 1, hlt, by go_num, ext_drewN hB _⟩
      case measure => simp [intOf]; omega
    · replace hM := hM.below hB
      replace hH := hH.below hB
      replace hC := hC.below hB
      replace hD := hD.below hB
      have hBL := HB.out.trans (hB.mono HB.out.size)
      clear hB HB
      go_upto_region 15 with fail
      clear hlt

      go_region_held3 (fun w' => w'.cell? ⟨gM, 0, none⟩ = some (.int .i64 m1) ∧ w'.cell? ⟨gM, 1, none⟩ = some (.int .i64 m2) ∧ w'.cell? ⟨gH, 0, none⟩ = some (.int .i64 p1) ∧ w'.cell? ⟨gH, 1, none⟩ = some (.int .i64 p2) ∧ w'.cell? ⟨gC, 0, none⟩ = some (.int .i64 m1) ∧ w'.cell? ⟨gC, 1, none⟩ = some (.int .i64 m2) ∧ w'.cell? ⟨gD, 0, none⟩ = some (.int .i64 p1) ∧ w'.cell? ⟨gD, 1, none⟩ = some (.int .i64 p2)) (exact ⟨hM.c0, hM.c1, hH.c0, hH.c1, hC.c0, hC.c1, hD.c0, hD.c1⟩)
        (first
          | (go_at_call_of 12 m1; refine (CF.out m1 m2 _).mono ?_; rintro e v0 ⟨rfl, hq⟩; have hM := hM.below ⟨hq.os, hq.tape, hq.output, hq.size, hq.block⟩; have hH := hH.below ⟨hq.os, hq.tape, hq.output, hq.size, hq.block⟩; have hC := hC.below ⟨hq.os, hq.tape, hq.output, hq.size, hq.block⟩; have hD := hD.below ⟨hq.os, hq.tape, hq.output, hq.size, hq.block⟩; have hBL := ext_step hBL ⟨hq.os, hq.tape, hq.output, hq.size, hq.block⟩; clear hq)
          | (go_at_call_of 12 p1; refine (CF.out p1 p2 _).mono ?_; rintro e v1 ⟨rfl, hq⟩; have hM := hM.below ⟨hq.os, hq.tape, hq.output, hq.size, hq.block⟩; have hH := hH.below ⟨hq.os, hq.tape, hq.output, hq.size, hq.block⟩; have hC := hC.below ⟨hq.os, hq.tape, hq.output, hq.size, hq.block⟩; have hD := hD.below ⟨hq.os, hq.tape, hq.output, hq.size, hq.block⟩; have hBL := ext_step hBL ⟨hq.os, hq.tape, hq.output, hq.size, hq.block⟩; clear hq))
      all_goals
        go_wp2_with fail
        go_ret
        exact ⟨rfl, hBL⟩
end Go.Proofs.Ythkeofpmappdhaa
