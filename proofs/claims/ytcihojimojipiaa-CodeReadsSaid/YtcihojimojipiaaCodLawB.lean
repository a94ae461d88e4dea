/- CodeReads, walked. -/
import Derived.Test.YtcihojimojipiaaCodV
import Derived.Test.YtcihojimojipiaaCodS
import Derived.Test.YtcihojimojipiaaCopyBytes
import Derived.Test.YtcihojimojipiaaPairs
namespace Go.Proofs.Ytcihojimojipiaa
open Go.RowKit
variable {Rd : World → Nat → Nat → Nat → List Int → Int → Prop}

theorem stU_byte {bs : List Int} {e : Int} (h : IsByte bs) (hn : bs.length ≤ 3000) : IsByte (stU bs e).2.1 ∧ (stU bs e).2.1.length ≤ 3000 := by
  unfold stU
  split
  · obtain ⟨h1, h2⟩ := readU_rest bs
    refine ⟨?_, Nat.le_trans h2 hn⟩
    rw [h1]
    exact fun c hc => h c (List.mem_of_mem_drop hc)
  · exact ⟨h, hn⟩
theorem stC_byte {bs : List Int} {e most : Int} (h : IsByte bs) (hn : bs.length ≤ 3000) : IsByte (stC bs e most).2.1 ∧ (stC bs e most).2.1.length ≤ 3000 := by
  unfold stC
  split
  · exact ⟨h, hn⟩
  · exact stU_byte h hn
theorem stT_byte {bs : List Int} {e most : Int} (h : IsByte bs) (hn : bs.length ≤ 3000) : IsByte (stT bs e most).2.1 ∧ (stT bs e most).2.1.length ≤ 3000 := by
  have hc := stC_byte (e := e) (most := most) h hn
  unfold stT
  split
  · split
    · exact ⟨h, hn⟩
    · refine ⟨fun c hx => hc.1 c (List.mem_of_mem_drop hx), ?_⟩
      rw [List.length_drop]
      omega
  · exact hc
/-- Two readers, the program's and the document's, in the same state. -/
def Both (Rd : World → Nat → Nat → Nat → List Int → Int → Prop) (B : Nat) (wL wx : World) (g U gs : Nat) : Prop :=
  ∃ bs e, IsByte bs ∧ bs.length ≤ 3000 ∧ Rd wx g wL.heap.size U bs e ∧ SRd wx B gs bs e ∧ Below wL.heap.size wL wx

set_option maxRecDepth 100000 in
set_option maxHeartbeats 8000000 in
theorem codeReads_any (G : CodeC Rd) (v0 v1 : Value) (bs : List Int) (qs : List (Int × Int)) (w : World) (L0 : Lst w w.heap.size .u8 v0 bs) (F0 : IsByte bs) (L1 : Gaps w w.heap.size v1 qs) (F1 : ∀ a ∈ qs, Fits a.1 ∧ Fits a.2) :
    Calls Try.prog 4 #[v0, v1] w fun e w' => e = .returned (.bool true) ∧ Below w.heap.size w w' := by
  obtain ⟨A0, c0, rfl⟩ := L0.len
  obtain ⟨A1, c1, rfl⟩ := L1.len
  have C0 := Lib.hid (alive6_any G w)
  by_cases hlen : 3000 < bs.length
  · have h1 : (3000 : Int) < (bs.length : Int) := by omega
    clear G L0 L1 F0 F1
    go_enter Try.func4, Try.ntmps4
    go_wp2_with fail
    refine (C0.out).mono ?_; rintro e w1 ⟨rfl, hB⟩
    go_wp2_with fail
    go_ret
    exact ⟨rfl, hB⟩
  by_cases hlen2 : 200 < qs.length
  · have h1 : ¬ (3000 : Int) < (bs.length : Int) := by omega
    have h2 : (200 : Int) < (qs.length : Int) := by omega
    clear G L0 L1 F0 F1
    go_enter Try.func4, Try.ntmps4
    go_wp2_with fail
    refine (C0.out).mono ?_; rintro e w1 ⟨rfl, hB⟩
    go_wp2_with fail
    go_ret
    exact ⟨rfl, hB⟩
  have h1 : ¬ (3000 : Int) < (bs.length : Int) := by omega
  have h2 : ¬ (200 : Int) < (qs.length : Int) := by omega
  have HL0 := Lib.hid L0
  have HL1 := Lib.hid L1
  have HF0 := Lib.hid F0
  have HF1 := Lib.hid F1
  have hn0 : bs.length ≤ 3000 := by omega
  have CC : Hid (∀ W, Below w.heap.size w W → Calls Try.prog 20 #[.slice A0 bs.length c0] W (Copied 5 .u8 W bs)) := Lib.hid fun W h => copyBytes_any _ bs W ((L0.below h).more h.size) (by omega)
  have CN := Lib.hid fun W u (h : Lst W W.heap.size .u8 u bs) => G.new u bs W h F0 (by omega)
  have CM := Lib.hid fun W (h : Below w.heap.size w W) => rNew6_any _ bs W w.heap.size h.size (L0.below h)
  have HG := Lib.hid G
  clear G L0 L1 F0 F1 hlen hlen2
  go_enter Try.func4, Try.ntmps4
  go_wp2_with fail
  refine (C0.out).mono ?_; rintro e w1 ⟨rfl, hB⟩
  go_wp2_with fail
  refine (CC.out _ hB).mono ?_; rintro e wL ⟨u, rfl, hO, h⟩
  replace hB := ext_step hB h
  have HLu := Lib.hid hO.lst
  clear h CC C0 hO
  go_wp2_with fail
  refine (CN.out _ _ HLu.out).mono ?_; rintro e w3 ⟨g, rfl, hR, hbL⟩
  clear CN
  go_wp2_with fail
  refine (CM.out _ (ext_step hB hbL)).mono ?_; rintro e w4 ⟨rfl, hS, -, hb4⟩
  have hR4 := HG.out.below hR hb4
  have hb5 := ext_step hbL hb4
  have HX0 : Both Rd w.heap.size wL w4 g w3.heap.size w3.heap.size := ⟨bs, 0, HF0.out, hn0, hR4, hS, hb5⟩
  clear CM hR hS hb4 hbL hR4 hb5
  generalize w3.heap.size = gs at *
  have hwL := hB.size
  go_wp2_with fail
  go_loopw [8] (fun i wr => ∃ k : Nat, k ≤ qs.length ∧ i = .int .i64 k ∧ Both Rd w.heap.size wL wr g gs gs) (fun i _ => qs.length - (intOf i).toNat)
  case atStart => exact ⟨0, Nat.zero_le _, rfl, HX0⟩
  case round =>
    clear HX0
    obtain ⟨k, hk, rfl, HX⟩ := hrel
    by_cases hlt : k < qs.length
    · have i0 : (0 : Int) ≤ (k : Int) := by omega
      have i1 : (k : Int) < (qs.length : Int) := by omega
      obtain ⟨ad, rfl, hab, hcell⟩ := HL1.out.at_ (by omega)
      have HC : Hid (∀ W', Below wL.heap.size wL W' → W'.cell? (ad.add (k * 2)) = some (.int .i64 qs[k].1) ∧ W'.cell? ⟨(ad.add (k * 2)).block, (ad.add (k * 2)).off + 1, none⟩ = some (.int .i64 qs[k].2)) := Lib.hid fun W' h' => by
        have c1 : _ = _ := ((ext_step hB h').cell (by rw [block_of_add]; exact hab)).trans (hcell k hlt).1
        have c2 : _ = _ := ((ext_step hB h').cell (by rw [block_of_add]; exact hab)).trans (hcell k hlt).2
        rw [add_succ] at c2
        exact ⟨c1, c2⟩
      have hq := HF1.out _ (List.getElem_mem hlt)
      have HM := Lib.hid hq.2
      clear hcell hq
      generalize qs[k].1 = t at *
      generalize qs[k].2 = most at *
      have hcc : Below wL.heap.size wL wr := by obtain ⟨_, _, _, _, _, _, h⟩ := HX; exact h
      obtain ⟨cc1, cc2⟩ := HC.out wr hcc
      go_upto_block 2 with fail
      go_cut [9] (fun ok wx => ok = .bool true ∧ Both Rd w.heap.size wL wx g gs gs)
      case first =>
        obtain ⟨b1, e1, hby, hln, hR, hS, hBL⟩ := HX
        have hLU := (HG.out.lt hR).1
        clear hcc
        rcases (show t = 0 ∨ t = 1 ∨ t = 2 ∨ t = 3 ∨ t = 4 ∨ (t ≠ 0 ∧ t ≠ 1 ∧ t ≠ 2 ∧ t ≠ 3 ∧ t ≠ 4) by omega) with ht | ht | ht | ht | ht | ⟨n0, n1, n2, n3, n4⟩
        · subst ht
          obtain ⟨hby2, hln2⟩ := stU_byte (e := e1) hby hln
          go_wp2_with fail
          refine (HG.out.uint _ _ _ _ _ _ hR hby (by omega)).mono ?_; rintro e w5 ⟨rfl, hR5, hA⟩
          have hS5 := hS.aside hA hwL (Nat.le_refl gs)
          have hB5 := hBL.trans (hA.below (Nat.le_refl _) hBL.size)
          clear hA
          go_wp2_with fail
          refine (rUintR_any _ _ _ _ _ hS5 hby (by omega)).mono ?_; rintro e w6 ⟨rfl, hS6, hA⟩
          have hR6 := HG.out.aside hR5 hA (Nat.le_refl gs)
          have hB6 := hB5.trans (hA.below hLU hB5.size)
          clear hA
          go_wp2_with fail
          go_meet
          exact ⟨by first | rfl | simp, _, _, hby2, hln2, hR6, hS6, hB6⟩
        · subst ht
          obtain ⟨hby2, hln2⟩ := stU_byte (e := e1) hby hln
          go_wp2_with fail
          refine (HG.out.int _ _ _ _ _ _ hR hby (by omega)).mono ?_; rintro e w5 ⟨rfl, hR5, hA⟩
          have hS5 := hS.aside hA hwL (Nat.le_refl gs)
          have hB5 := hBL.trans (hA.below (Nat.le_refl _) hBL.size)
          clear hA
          go_wp2_with fail
          refine (rIntR_any _ _ _ _ _ hS5 hby (by omega)).mono ?_; rintro e w6 ⟨rfl, hS6, hA⟩
          have hR6 := HG.out.aside hR5 hA (Nat.le_refl gs)
          have hB6 := hB5.trans (hA.below hLU hB5.size)
          clear hA
          go_wp2_with fail
          go_meet
          exact ⟨by first | rfl | simp, _, _, hby2, hln2, hR6, hS6, hB6⟩
        · subst ht
          obtain ⟨hby2, hln2⟩ := stT_byte (e := e1) (most := most) hby hln
          go_wp2_with fail
          have hR := HG.out.drew hR
          have hS := hS.drew
          have hBL := hBL.drew
          go_region_held3 (fun w' => w'.cell? ⟨(ad.add (k * 2)).block, (ad.add (k * 2)).off + 1, none⟩ = some (.int .i64 most)) (exact (HC.out _ hBL).2)
            (first
              | (go_at_call 27; refine (HG.out.text _ _ _ _ _ _ _ hR hby (by omega) HM.out).mono ?_; rintro e wa ⟨rfl, hR, hq⟩; have hS := hS.aside ⟨hq.os, hq.tape, hq.output, hq.size, hq.block⟩ hwL (Nat.le_refl gs); have hBL := hBL.trans (Aside.below ⟨hq.os, hq.tape, hq.output, hq.size, hq.block⟩ (Nat.le_refl _) hBL.size); clear hq)
              | (go_at_call 28; refine (rTextR_any _ _ _ _ most _ hS hby (by omega) HM.out).mono ?_; rintro e wb ⟨rfl, hS, hq⟩; have hR := HG.out.aside hR ⟨hq.os, hq.tape, hq.output, hq.size, hq.block⟩ (Nat.le_refl gs); have hBL := hBL.trans (Aside.below ⟨hq.os, hq.tape, hq.output, hq.size, hq.block⟩ hLU hBL.size); clear hq))
          all_goals
            go_wp2_with fail
            go_meet
            exact ⟨by first | rfl | simp, _, _, hby2, hln2, hR, hS, hBL⟩
        · subst ht
          obtain ⟨hby2, hln2⟩ := stC_byte (e := e1) (most := most) hby hln
          go_wp2_with fail
          have hR := HG.out.drew hR
          have hS := hS.drew
          have hBL := hBL.drew
          go_region_held3 (fun w' => w'.cell? ⟨(ad.add (k * 2)).block, (ad.add (k * 2)).off + 1, none⟩ = some (.int .i64 most)) (exact (HC.out _ hBL).2)
            (first
              | (go_at_call 29; refine (HG.out.count _ _ _ _ _ _ _ hR hby (by omega) HM.out).mono ?_; rintro e wa ⟨rfl, hR, hq⟩; have hS := hS.aside ⟨hq.os, hq.tape, hq.output, hq.size, hq.block⟩ hwL (Nat.le_refl gs); have hBL := hBL.trans (Aside.below ⟨hq.os, hq.tape, hq.output, hq.size, hq.block⟩ (Nat.le_refl _) hBL.size); clear hq)
              | (go_at_call 30; refine (rCountR_any _ _ _ _ most _ hS hby (by omega) HM.out).mono ?_; rintro e wb ⟨rfl, hS, hq⟩; have hR := HG.out.aside hR ⟨hq.os, hq.tape, hq.output, hq.size, hq.block⟩ (Nat.le_refl gs); have hBL := hBL.trans (Aside.below ⟨hq.os, hq.tape, hq.output, hq.size, hq.block⟩ hLU hBL.size); clear hq))
          all_goals
            go_wp2_with fail
            go_meet
            exact ⟨by first | rfl | simp, _, _, hby2, hln2, hR, hS, hBL⟩
        · subst ht
          obtain ⟨hby2, hln2⟩ := (⟨hby, hln⟩ : IsByte b1 ∧ b1.length ≤ 3000)
          go_wp2_with fail
          refine (HG.out.end_ _ _ _ _ _ _ hR).mono ?_; rintro e w5 ⟨rfl, hR5, hA⟩
          have hS5 := hS.aside hA hwL (Nat.le_refl gs)
          have hB5 := hBL.trans (hA.below (Nat.le_refl _) hBL.size)
          clear hA
          go_wp2_with fail
          refine (rEndR_any _ _ _ _ _ hS5).mono ?_; rintro e w6 ⟨rfl, hS6, hA⟩
          have hR6 := HG.out.aside hR5 hA (Nat.le_refl gs)
          have hB6 := hB5.trans (hA.below hLU hB5.size)
          clear hA
          go_wp2_with fail
          go_meet
          exact ⟨by first | rfl | simp, _, _, hby2, hln2, hR6, hS6, hB6⟩
        · have m0 : (t == 0) = false := by simpa using n0
          have m1 : (t == 1) = false := by simpa using n1
          have m2 : (t == 2) = false := by simpa using n2
          have m3 : (t == 3) = false := by simpa using n3
          have m4 : (t == 4) = false := by simpa using n4
          go_wp2_with fail
          go_meet
          exact ⟨by first | rfl | simp, _, _, hby, hln, hR, hS, hBL⟩
      case rest =>
        obtain ⟨rfl, b2, e2, hby, hln, hR, hS, hBL⟩ := hcut
        obtain ⟨vS, hA2, hLs, -⟩ := id hS
        obtain ⟨AS, cS, rfl⟩ := hLs.len
        clear hcc hLs
        go_upto_region 25 with fail
        have hR := HG.out.drew hR
        have hS := hS.drew
        have hA3 := hA2.drew
        have hBL := hBL.drew
        go_region_held3 (fun w' => w'.cell? ⟨gs, 0, none⟩ = some (.slice AS b2.length cS) ∧ w'.cell? ⟨gs, 1, none⟩ = some (.int .i64 e2)) (first | exact ⟨hA3.c0, hA3.c1⟩ | exact ⟨hA2.c0, hA2.c1⟩)
          (first
            | (go_at_call 33; refine (HG.out.err _ _ _ _ _ _ hR).mono ?_; rintro e wa ⟨rfl, hq⟩; have hR := HG.out.below hR ⟨hq.os, hq.tape, hq.output, hq.size, hq.block⟩; have hS := hS.below ⟨hq.os, hq.tape, hq.output, hq.size, hq.block⟩; have hA3 := hA3.below ⟨hq.os, hq.tape, hq.output, hq.size, hq.block⟩; have hBL := hBL.trans (Below.mono ⟨hq.os, hq.tape, hq.output, hq.size, hq.block⟩ hBL.size); clear hq)
            | (go_at_call 34; refine (HG.out.left _ _ _ _ _ _ hR).mono ?_; rintro e wb ⟨rfl, hq⟩; have hR := HG.out.below hR ⟨hq.os, hq.tape, hq.output, hq.size, hq.block⟩; have hS := hS.below ⟨hq.os, hq.tape, hq.output, hq.size, hq.block⟩; have hA3 := hA3.below ⟨hq.os, hq.tape, hq.output, hq.size, hq.block⟩; have hBL := hBL.trans (Below.mono ⟨hq.os, hq.tape, hq.output, hq.size, hq.block⟩ hBL.size); clear hq))
        all_goals
          go_wp2_with fail
          go_roundw
          case rel => exact ⟨k + 1, hlt, by go_num, b2, e2, hby, hln, hR, hS, hBL⟩
          case measure => simp [intOf]; omega
    · obtain ⟨b1, e1, -, -, -, -, hBL⟩ := HX
      obtain rfl : k = qs.length := by omega
      have CS := Lib.hid (sameBytes_any _ _ _ wr ((HLu.out.below hBL).more hBL.size) ((HL0.out.below (ext_step hB hBL)).more (ext_step hB hBL).size) (by omega))
      have hBw := ext_step hB hBL
      clear hk hlt
      go_wp2_with fail
      refine (CS.out).mono ?_; rintro e w9 ⟨rfl, m9, hw⟩
      have hB9 := ext_drewN' hBw hw
      clear hw CS hBw
      go_wp2_with fail
      go_ret
      exact ⟨rfl, hB9⟩
end Go.Proofs.Ytcihojimojipiaa
