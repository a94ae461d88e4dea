/- Law 4's DriftHonest, walked from package drift's contracts. -/
import Derived.Test.YtljgfallhnlebaaDriC
import Derived.Test.YtljgfallhnlebaaAppendV
namespace Go.Proofs.Ytljgfallhnlebaa
open Go.RowKit

theorem drift_info : (Try.prog.info? 36).map (fun i => (i.zero, i.size, i.bytes)) = some (some (.agg #[.int .i64 0, .int .i64 0]), 2, 16) := by kernel_rfl

set_option maxRecDepth 100000 in
set_option maxHeartbeats 8000000 in
theorem driftHonest_any (G : DriftC) (r : Int) (v : Value) (gs : List (Int × Int)) (w : World) (hr : Fits r) (hl : Gaps w w.heap.size v gs) (hf : ∀ g ∈ gs, Fits g.1 ∧ Fits g.2) (hbig : gs.length ≤ 9223372036854775807) :
    Calls Try.prog 5 #[.int .i64 r, v] w fun e w' => e = .returned (.bool true) ∧ Below w.heap.size w w' := by
  have C0 := Lib.hid (alive4_any G)
  have HL := Lib.hid hl
  obtain ⟨A, c, rfl⟩ := hl.len
  by_cases h30 : 30 < gs.length
  · have h30' : 30 < (gs.length : Int) := by omega
    clear hl hf G hr
    go_enter Try.func5, Try.ntmps5
    go_wp2_with fail
    refine (C0.out _).mono ?_; rintro e w1 ⟨rfl, h1⟩
    go_wp2_with fail
    go_ret
    exact ⟨rfl, h1⟩
  have h30' : ¬ 30 < (gs.length : Int) := by omega
  have CH := Lib.hid fun (u : Value) (W : World) (h : Gaps W W.heap.size u gs) => G.honest r u gs W hr h hf (by omega)
  have CL := Lib.hid fun (u : Value) (W : World) (h : Gaps W W.heap.size u gs) => G.least u gs W h hf (by omega)
  have CP := Lib.hid fun (u : Value) (W : World) (h : Gaps W W.heap.size u gs) => rHonest_any r u gs W h (by omega)
  have CQ := Lib.hid fun (u : Value) (W : World) (h : Gaps W W.heap.size u gs) => rLeast_any u gs W h (by omega)
  have CO := Lib.hid fun (W : World) (h : Gaps W W.heap.size (.slice A gs.length c) gs) => of4_any _ gs W h (by omega)
  unfold NumB at CL CQ
  generalize honestB r gs = hb at *
  generalize leastI gs = lb at *
  obtain ⟨l1, l2⟩ := lb
  dsimp only at CL CQ
  clear hl hf G hr
  obtain ⟨i0, hi, hz0, hz1, hz2⟩ := info_parts drift_info
  go_enter Try.func5, Try.ntmps5
  go_wp2_with fail
  refine (C0.out _).mono ?_; rintro e w1 ⟨rfl, h1⟩
  have SRC := Lib.hid (HL.out.src (w' := w1.alloc (.cells #[] 36)) (fun p hp => ((below_new w1 _).cell (Nat.lt_of_lt_of_le hp h1.size)).trans (h1.cell hp)))
  go_wp2_with (at_builtin; go_must (refine wpList_append_cells _ rfl (.tmp 17) (.tmp 18) 28 rfl w1.heap.size 36 i0 (.agg #[.int .i64 0, .int .i64 0]) 2 16 Try.underlying28 hi hz0 hz1 hz2 rfl (by decide) _ 0 [] rfl (OwnG.empty _ w1) A gs.length c (cellsG gs) rfl (cellsG_length gs) SRC.out (cellsG_one gs) (by unfold maxLen; omega) (by omega) (by simp) ?_); intro v2 w2 hown2 hgrow2)
  obtain ⟨hG, hBL⟩ := own_made rfl h1 hown2 hgrow2
  clear hown2 hgrow2 SRC h1 hz0 hz1 hz2 hi
  obtain ⟨A2, c2, rfl⟩ := hG.len
  go_wp2_with fail
  refine (CH.out _ w2 hG).mono ?_; rintro e w3 ⟨rfl, h⟩
  replace hG := (hG.below h).more h.size
  replace hBL := ext_step hBL h
  go_wp2_with fail
  refine (CL.out _ w3 hG).mono ?_; rintro e w4 ⟨rfl, h⟩
  replace hG := (hG.below h).more h.size
  replace hBL := ext_step hBL h
  go_wp2_with fail
  refine (CO.out w4 ((HL.out.below hBL).more hBL.size)).mono ?_; rintro e w5 ⟨u5, rfl, ho5, h⟩
  replace hG := (hG.below h).more h.size
  replace hBL := ext_step hBL h
  go_wp2_with fail
  refine (CQ.out u5 w5 ho5.gaps).mono ?_; rintro e w6 ⟨rfl, h⟩
  replace hG := (hG.below h).more h.size
  replace hBL := ext_step hBL h
  clear ho5 h CH CL CQ C0
  go_wp2_with fail
  have H2 := Lib.hid hG
  have HB := Lib.hid hBL
  clear hG hBL
  go_loopw [11] (fun i wr => ∃ k : Nat, k ≤ gs.length ∧ i = .int .i64 k ∧ Below w6.heap.size w6 wr) (fun i _ => gs.length - (intOf i).toNat)
  case atStart => exact ⟨0, Nat.zero_le _, rfl, Below.refl _ _⟩
  case round =>
    obtain ⟨k, hk, rfl, hB⟩ := hrel
    by_cases hlt : k < gs.length
    · obtain ⟨ad, rfl, hb1, hcell⟩ := HL.out.at_ (by omega)
      obtain ⟨ad2, rfl, hb2, hcell2⟩ := H2.out.at_ (by omega)
      have c1 : _ = _ := (hB.cell (by rw [block_of_add]; exact Nat.lt_of_lt_of_le hb1 HB.out.size)).trans ((HB.out.cell (by rw [block_of_add]; exact hb1)).trans (hcell k hlt).1)
      have c2 : _ = _ := (hB.cell (by rw [block_of_add]; exact Nat.lt_of_lt_of_le hb1 HB.out.size)).trans ((HB.out.cell (by rw [block_of_add]; exact hb1)).trans (hcell k hlt).2)
      have c3 : _ = _ := (hB.cell (by rw [block_of_add]; exact hb2)).trans (hcell2 k hlt).1
      have c4 : _ = _ := (hB.cell (by rw [block_of_add]; exact hb2)).trans (hcell2 k hlt).2
      rw [add_succ] at c2 c4
      clear hcell hcell2 hb1 hb2
      generalize gs[k].1 = a at *
      generalize gs[k].2 = b at *
      go_wp2_with fail
      go_quiet (fail)
      go_wp2_with fail
      go_roundw
      case rel => exact ⟨k + 1, hlt, by go_num, ext_drewN hB _⟩
      case measure => simp [intOf]; omega
    · have hBL := HB.out.trans (hB.mono HB.out.size)
      clear hB HB
      go_wp2_with fail
      refine (CO.out _ ((HL.out.below hBL).more hBL.size)).mono ?_; rintro e w7 ⟨u7, rfl, ho7, h⟩
      replace hBL := ext_step hBL h
      go_wp2_with fail
      refine (CP.out u7 w7 ho7.gaps).mono ?_; rintro e w8 ⟨rfl, h⟩
      replace hBL := ext_step hBL h
      clear ho7
      go_wp2_with fail
      go_ret
      exact ⟨rfl, hBL⟩
end Go.Proofs.Ytljgfallhnlebaa
