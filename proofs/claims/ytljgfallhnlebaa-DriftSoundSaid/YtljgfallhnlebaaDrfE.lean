/- Package drift: steady, walked. -/
import Derived.Test.YtljgfallhnlebaaDrfC
namespace Go.Proofs.Ytljgfallhnlebaa
open Go.RowKit

theorem getD_get {gs : List (Int × Int)} {k : Nat} (h : k < gs.length) : gs.getD k (0, 0) = gs[k] := by
  rw [List.getD_eq_getElem?_getD, List.getElem?_eq_getElem h]; rfl
theorem two_lead {x : Int} (h : Lead x) : Two x := by rw [two_bd]; unfold Lead at h; omega
theorem two_leads {x y : Int} (h : Lead x) (k : Lead y) : Two (x - y) := by rw [two_bd]; unfold Lead at h k; omega
/-- Where the loop over the points stands. -/
def Sofar (r : Int) (gs : List (Int × Int)) (k : Nat) (lo hi : Int) : Prop := Lead lo ∧ Lead hi ∧ LeastOf (fastI r) gs k lo ∧ MostOf (slowI r) gs k hi ∧ SteadyTo r gs k

set_option maxRecDepth 100000 in
set_option maxHeartbeats 8000000 in
theorem dSteady_any (r : Int) (v : Value) (gs : List (Int × Int)) (w : World) (h0 : 0 ≤ r) (h1 : r ≤ 100000) (hv : Gaps w w.heap.size v gs) (ht : ∀ p ∈ gs, timeB p = true) (hn : gs.length ≤ 1000000) :
    Calls Try.prog 26 #[.int .i64 r, v] w fun e w' => e = .returned (.bool (steadyB r gs)) ∧ Below w.heap.size w w' := by
  obtain ⟨A, c, rfl, hc, hr⟩ := hv
  have HR := Lib.hid hr
  have HT := Lib.hid ht
  have HN := Lib.hid hn
  have e1 : wrap64 (1000000 + r) = 1000000 + r := wrap_of_fits (by unfold Fits; omega)
  have e2 : wrap64 (1000000 - r) = 1000000 - r := wrap_of_fits (by unfold Fits; omega)
  have HF1 : Hid (Fits (1000000 + r) ∧ Fits (1000000 - r)) := Lib.hid (by unfold Fits; omega)
  have H01 := Lib.hid (And.intro h0 h1)
  clear hr ht
  have hR : AtP ((w.alloc (.cells #[.int .i64 0, .int .u64 0] 68)).alloc (.cells #[.int .i64 0, .int .u64 0] 68)) w.heap.size (0 / 18446744073709551616) (0 % 18446744073709551616) := (AtP.two w 0 0 0 0 68).1
  have hT : AtP ((w.alloc (.cells #[.int .i64 0, .int .u64 0] 68)).alloc (.cells #[.int .i64 0, .int .u64 0] 68)) (w.heap.size + 1) (0 / 18446744073709551616) (0 % 18446744073709551616) := (AtP.two w 0 0 0 0 68).2
  have hB := up2 w (.cells #[.int .i64 0, .int .u64 0] 68) (.cells #[.int .i64 0, .int .u64 0] 68)
  go_enter Try.func26, Try.ntmps26
  go_wp2_with fail
  generalize (w.alloc (.cells #[.int .i64 0, .int .u64 0] 68)).alloc (.cells #[.int .i64 0, .int .u64 0] 68) = W0 at *
  go_loopw [13] (fun i wr => ∃ (k : Nat) (lo hi : Int), k ≤ gs.length ∧ i = .int .i64 k ∧ Below w.heap.size w wr ∧ AtP wr w.heap.size (lo / 18446744073709551616) (lo % 18446744073709551616) ∧ AtP wr (w.heap.size + 1) (hi / 18446744073709551616) (hi % 18446744073709551616) ∧ Hid (Sofar r gs k lo hi)) (fun i _ => gs.length - (intOf i).toNat)
  case atStart => exact ⟨0, 0, 0, Nat.zero_le _, rfl, hB, hR, hT, Lib.hid ⟨by unfold Lead; decide, by unfold Lead; decide, LeastOf.none _ _ _, MostOf.none _ _ _, SteadyTo.none _ _⟩⟩
  case round =>
    clear hB hR hT
    obtain ⟨k, lo, hi, hk, rfl, hB, hR, hT, HS⟩ := hrel
    by_cases hlt : k < gs.length
    · obtain ⟨ad, rfl, hb, hcell⟩ := HR.out (by omega)
      rename_i wr _ _
      have c1 : _ = _ := (hB.cell (by rw [block_of_add]; exact hb)).trans (hcell k hlt).1
      have c2 : _ = _ := (hB.cell (by rw [block_of_add]; exact hb)).trans (hcell k hlt).2
      rw [add_succ] at c2
      have tk := time_iff.1 (HT.out _ (List.getElem_mem hlt))
      have LF := Lib.hid (lead_fast (HT.out _ (List.getElem_mem hlt)) H01.out.1 H01.out.2)
      have LS := Lib.hid (lead_slow (HT.out _ (List.getElem_mem hlt)) H01.out.1 H01.out.2)
      have EK := Lib.hid (getD_get hlt)
      have EP : Hid (gs[k] = (gs[k].1, gs[k].2)) := Lib.hid rfl
      clear hcell hb
      generalize ea : gs[k].1 = a at *
      generalize eb : gs[k].2 = b at *
      replace EK : Hid (gs.getD k (0, 0) = (a, b)) := Lib.hid (EK.out.trans EP.out)
      replace EP : Hid (gs[k] = (a, b)) := EP
      rw [EP.out] at LF LS
      replace LF : Hid (Lead (leadI (a, b) (1000000 + r))) := LF
      replace LS : Hid (Lead (leadI (a, b) (1000000 - r))) := LS
      have CA1 := Lib.hid (dAhead_any a b (1000000 + r) (by unfold Fits; omega) (by unfold Fits; omega) HF1.out.1 (two_lead LF.out))
      have CA2 := Lib.hid (dAhead_any a b (1000000 - r) (by unfold Fits; omega) (by unfold Fits; omega) HF1.out.2 (two_lead LS.out))
      obtain ⟨LL, LH, SL, SM, ST⟩ := HS.out
      have HEF : Hid (leadI (a, b) (1000000 + r) = fastI r (gs.getD k (0, 0))) := Lib.hid (by rw [EK.out]; rfl)
      have HES : Hid (leadI (a, b) (1000000 - r) = slowI r (gs.getD k (0, 0))) := Lib.hid (by rw [EK.out]; rfl)
      replace LL := Lib.hid LL
      replace LH := Lib.hid LH
      replace SL := Lib.hid SL
      replace SM := Lib.hid SM
      replace ST := Lib.hid ST
      clear ea eb tk EP EK HS
      generalize leadI (a, b) (1000000 + r) = f at *
      generalize leadI (a, b) (1000000 - r) = s at *
      have C1 := Lib.hid (cmpW_any f lo)
      have C2 := Lib.hid (cmpW_any s hi)
      have hP := At2.new wr (.int .i64 a) (.int .i64 b) 36
      replace hR := hR.alloc (.cells #[.int .i64 a, .int .i64 b] 36)
      replace hT := hT.alloc (.cells #[.int .i64 a, .int .i64 b] 36)
      replace hB := ext_alloc hB (.cells #[.int .i64 a, .int .i64 b] 36)
      obtain ⟨p0, p1, -, -⟩ := id hP
      go_wp2_with fail
      refine (CA1.out _).mono ?_; rintro e w1 ⟨rfl, h⟩
      clear c1 c2 p0 p1
      replace hR := hR.below h
      replace hT := hT.below h
      replace hP := hP.below h
      replace hB := ext_step hB h
      clear h
      generalize wr.heap.size = g8 at *
      have g9 := hT.lt
      replace hR := hR.alloc (.cells #[.int .i64 (f / 18446744073709551616), .int .u64 (f % 18446744073709551616)] 68)
      replace hT := hT.alloc (.cells #[.int .i64 (f / 18446744073709551616), .int .u64 (f % 18446744073709551616)] 68)
      replace hP := hP.alloc (.cells #[.int .i64 (f / 18446744073709551616), .int .u64 (f % 18446744073709551616)] 68)
      have hD := AtP.new w1 (f / 18446744073709551616) (f % 18446744073709551616) 68
      replace hB := ext_alloc hB (.cells #[.int .i64 (f / 18446744073709551616), .int .u64 (f % 18446744073709551616)] 68)
      obtain ⟨p0, p1, -, -⟩ := id hP
      go_wp2_with fail
      refine (CA2.out _).mono ?_; rintro e w2 ⟨rfl, h⟩
      clear p0 p1
      replace hR := hR.below h
      replace hT := hT.below h
      replace hD := hD.below h
      replace hB := ext_step hB h
      clear h hP
      generalize w1.heap.size = g9' at *
      have g10 := hT.lt
      replace hR := hR.alloc (.cells #[.int .i64 (s / 18446744073709551616), .int .u64 (s % 18446744073709551616)] 68)
      replace hT := hT.alloc (.cells #[.int .i64 (s / 18446744073709551616), .int .u64 (s % 18446744073709551616)] 68)
      replace hD := hD.alloc (.cells #[.int .i64 (s / 18446744073709551616), .int .u64 (s % 18446744073709551616)] 68)
      have hE := AtP.new w2 (s / 18446744073709551616) (s % 18446744073709551616) 68
      replace hB := ext_alloc hB (.cells #[.int .i64 (s / 18446744073709551616), .int .u64 (s % 18446744073709551616)] 68)
      go_upto_region 7 with fail
      generalize w2.alloc (.cells #[.int .i64 (s / 18446744073709551616), .int .u64 (s % 18446744073709551616)] 68) = W1 at *
      generalize w2.heap.size = g10' at *
      have n9 : ¬ w.heap.size = g9' := by omega
      have n9' : ¬ w.heap.size + 1 = g9' := by omega
      have n10 : ¬ w.heap.size = g10' := by omega
      have n10' : ¬ w.heap.size + 1 = g10' := by omega
      replace n9 := Lib.hid n9
      replace n9' := Lib.hid n9'
      replace n10 := Lib.hid n10
      replace n10' := Lib.hid n10'
      clear g9 g10
      by_cases hk0 : k = 0
      · have NL : Hid (LeastOf (fastI r) gs (k + 1) f) := Lib.hid (by rw [HEF.out]; exact SL.out.take_ (Or.inl hk0))
        have NM : Hid (MostOf (slowI r) gs (k + 1) s) := Lib.hid (by rw [HES.out]; exact SM.out.take_ (Or.inl hk0))
        have ek : ((k : Int) == 0) = true := by simpa using hk0
        replace hk0 := Lib.hid hk0
        obtain ⟨d0, d1, -, -⟩ := id hD
        obtain ⟨r0, r1, r2, r3⟩ := id hR
        go_upto_region 9 with fail
        clear d0 d1 r0 r1 r2 r3
        replace hR := hR.set_ (f / 18446744073709551616) (f % 18446744073709551616)
        replace hT := (hT.other (b' := w.heap.size) (by omega) 0 (.int .i64 (f / 18446744073709551616))).other (b' := w.heap.size) (by omega) 1 (.int .u64 (f % 18446744073709551616))
        replace hD := (hD.other (fun e => n9.out e.symm) 0 (.int .i64 (f / 18446744073709551616))).other (fun e => n9.out e.symm) 1 (.int .u64 (f % 18446744073709551616))
        replace hE := (hE.other (fun e => n10.out e.symm) 0 (.int .i64 (f / 18446744073709551616))).other (fun e => n10.out e.symm) 1 (.int .u64 (f % 18446744073709551616))
        replace hB := ext_put (ext_put hB (p := ⟨w.heap.size, 0, none⟩) (Nat.le_refl _) (.int .i64 (f / 18446744073709551616))) (p := ⟨w.heap.size, 1, none⟩) (Nat.le_refl _) (.int .u64 (f % 18446744073709551616))
        generalize (W1.setCell ⟨w.heap.size, 0, none⟩ (.int .i64 (f / 18446744073709551616))).setCell ⟨w.heap.size, 1, none⟩ (.int .u64 (f % 18446744073709551616)) = W3 at *
        obtain ⟨d0, d1, -, -⟩ := id hE
        obtain ⟨r0, r1, r2, r3⟩ := id hT
        go_upto_region 11 with fail
        clear d0 d1 r0 r1 r2 r3
        replace hT := hT.set_ (s / 18446744073709551616) (s % 18446744073709551616)
        replace hR := (hR.other (b' := w.heap.size + 1) (by omega) 0 (.int .i64 (s / 18446744073709551616))).other (b' := w.heap.size + 1) (by omega) 1 (.int .u64 (s % 18446744073709551616))
        replace hD := (hD.other (fun e => n9'.out e.symm) 0 (.int .i64 (s / 18446744073709551616))).other (fun e => n9'.out e.symm) 1 (.int .u64 (s % 18446744073709551616))
        replace hE := (hE.other (fun e => n10'.out e.symm) 0 (.int .i64 (s / 18446744073709551616))).other (fun e => n10'.out e.symm) 1 (.int .u64 (s % 18446744073709551616))
        replace hB := ext_put (ext_put hB (p := ⟨w.heap.size + 1, 0, none⟩) (Nat.le_succ _) (.int .i64 (s / 18446744073709551616))) (p := ⟨w.heap.size + 1, 1, none⟩) (Nat.le_succ _) (.int .u64 (s % 18446744073709551616))
        generalize (W3.setCell ⟨w.heap.size + 1, 0, none⟩ (.int .i64 (s / 18446744073709551616))).setCell ⟨w.heap.size + 1, 1, none⟩ (.int .u64 (s % 18446744073709551616)) = W5 at *
        have F1 := Lib.hid (dFar_any f f (two_lead LF.out) (two_lead LF.out) (two_leads LF.out LF.out))
        have F2 := Lib.hid (dFar_any s s (two_lead LS.out) (two_lead LS.out) (two_leads LS.out LS.out))
        obtain ⟨d0, d1, -, -⟩ := id hD
        obtain ⟨r0, r1, -, -⟩ := id hR
        by_cases q1 : 1000000 < f - f
        · have Z : Hid (steadyB r gs = false) := Lib.hid (steady_fast hlt NL.out (by rw [← HEF.out]; exact q1))
          rw [decide_eq_true q1] at F1
          replace q1 := Lib.hid q1
          go_wp2_with fail
          refine (F1.out _).mono ?_; rintro e w6 ⟨rfl, h⟩
          replace hB := Lib.hid (ext_step hB h)
          clear h d0 d1 r0 r1 hR hT hD hE
          go_wp2_with fail
          go_ret
          exact ⟨ret_bool Z.out.symm, hB.out⟩
        · rw [decide_eq_false q1] at F1
          replace q1 := Lib.hid q1
          go_wp2_with fail
          refine (F1.out _).mono ?_; rintro e w6 ⟨rfl, h⟩
          clear d0 d1 r0 r1
          replace hR := hR.below h
          replace hT := hT.below h
          replace hD := hD.below h
          replace hE := hE.below h
          replace hB := ext_step hB h
          clear h
          obtain ⟨d0, d1, -, -⟩ := id hE
          obtain ⟨r0, r1, -, -⟩ := id hT
          by_cases q2 : 1000000 < s - s
          · have Z : Hid (steadyB r gs = false) := Lib.hid (steady_slow hlt NM.out (by rw [← HES.out]; exact q2))
            rw [decide_eq_true q2] at F2
            replace q2 := Lib.hid q2
            go_wp2_with fail
            refine (F2.out _).mono ?_; rintro e w7 ⟨rfl, h⟩
            replace hB := Lib.hid (ext_step hB h)
            clear h d0 d1 r0 r1 hR hT hD hE
            go_wp2_with fail
            go_ret
            exact ⟨ret_bool Z.out.symm, hB.out⟩
          · rw [decide_eq_false q2] at F2
            have Z : Hid (Sofar r gs (k + 1) f s) := Lib.hid ⟨LF.out, LS.out, NL.out, NM.out, ST.out.next NL.out NM.out (by rw [← HEF.out]; have := q1.out; omega) (by rw [← HES.out]; omega)⟩
            replace q2 := Lib.hid q2
            go_wp2_with fail
            refine (F2.out _).mono ?_; rintro e w7 ⟨rfl, h⟩
            replace hR := hR.below h
            replace hT := hT.below h
            replace hB := ext_step hB h
            clear h d0 d1 r0 r1 hD hE
            go_wp2_with fail
            go_roundw
            case rel => exact ⟨k + 1, f, s, hlt, by go_num, hB, hR, hT, Z⟩
            case measure => simp [intOf]; omega
      · have ek : ((k : Int) == 0) = false := by simpa using hk0
        have hkp : Hid (0 < k) := Lib.hid (by omega)
        replace hk0 := Lib.hid hk0
        obtain ⟨d0, d1, -, -⟩ := id hD
        obtain ⟨r0, r1, -, -⟩ := id hR
        have O1 : Hid (decide (ordI f lo < 0) = decide (f < lo)) := Lib.hid ordI_neg
        have O2 : Hid (decide (0 < ordI s hi) = decide (hi < s)) := Lib.hid ordI_pos
        generalize ordI f lo = o1 at *
        generalize ordI s hi = o2 at *
        go_wp2_with fail
        refine (C1.out _).mono ?_; rintro e w3 ⟨rfl, h⟩
        clear d0 d1 r0 r1
        replace hR := hR.below h
        replace hT := hT.below h
        replace hD := hD.below h
        replace hE := hE.below h
        replace hB := ext_step hB h
        clear h
        by_cases q3 : f < lo
        · have NL : Hid (LeastOf (fastI r) gs (k + 1) f) := Lib.hid (by rw [HEF.out]; exact SL.out.take_ (Or.inr (by rw [← HEF.out]; exact q3)))
          have q4 : o1 < 0 := of_decide_eq_true (O1.out.trans (decide_eq_true q3))
          replace q3 := Lib.hid q3
          obtain ⟨d0, d1, -, -⟩ := id hD
          obtain ⟨r0, r1, r2, r3⟩ := id hR
          go_upto_region 9 with fail
          clear d0 d1 r0 r1 r2 r3
          replace hR := hR.set_ (f / 18446744073709551616) (f % 18446744073709551616)
          replace hT := (hT.other (b' := w.heap.size) (by omega) 0 (.int .i64 (f / 18446744073709551616))).other (b' := w.heap.size) (by omega) 1 (.int .u64 (f % 18446744073709551616))
          replace hD := (hD.other (fun e => n9.out e.symm) 0 (.int .i64 (f / 18446744073709551616))).other (fun e => n9.out e.symm) 1 (.int .u64 (f % 18446744073709551616))
          replace hE := (hE.other (fun e => n10.out e.symm) 0 (.int .i64 (f / 18446744073709551616))).other (fun e => n10.out e.symm) 1 (.int .u64 (f % 18446744073709551616))
          replace hB := ext_put (ext_put hB (p := ⟨w.heap.size, 0, none⟩) (Nat.le_refl _) (.int .i64 (f / 18446744073709551616))) (p := ⟨w.heap.size, 1, none⟩) (Nat.le_refl _) (.int .u64 (f % 18446744073709551616))
          generalize (w3.setCell ⟨w.heap.size, 0, none⟩ (.int .i64 (f / 18446744073709551616))).setCell ⟨w.heap.size, 1, none⟩ (.int .u64 (f % 18446744073709551616)) = W3 at *
          obtain ⟨d0, d1, -, -⟩ := id hE
          obtain ⟨r0, r1, -, -⟩ := id hT
          go_wp2_with fail
          refine (C2.out _).mono ?_; rintro e w4 ⟨rfl, h⟩
          clear d0 d1 r0 r1 q4
          replace hR := hR.below h
          replace hT := hT.below h
          replace hD := hD.below h
          replace hE := hE.below h
          replace hB := ext_step hB h
          clear h
          by_cases q5 : hi < s
          · have NM : Hid (MostOf (slowI r) gs (k + 1) s) := Lib.hid (by rw [HES.out]; exact SM.out.take_ (Or.inr (by rw [← HES.out]; exact q5)))
            have q6 : 0 < o2 := of_decide_eq_true (O2.out.trans (decide_eq_true q5))
            replace q5 := Lib.hid q5
            obtain ⟨d0, d1, -, -⟩ := id hE
            obtain ⟨r0, r1, r2, r3⟩ := id hT
            go_upto_region 11 with fail
            clear d0 d1 r0 r1 r2 r3
            replace hT := hT.set_ (s / 18446744073709551616) (s % 18446744073709551616)
            replace hR := (hR.other (b' := w.heap.size + 1) (by omega) 0 (.int .i64 (s / 18446744073709551616))).other (b' := w.heap.size + 1) (by omega) 1 (.int .u64 (s % 18446744073709551616))
            replace hD := (hD.other (fun e => n9'.out e.symm) 0 (.int .i64 (s / 18446744073709551616))).other (fun e => n9'.out e.symm) 1 (.int .u64 (s % 18446744073709551616))
            replace hE := (hE.other (fun e => n10'.out e.symm) 0 (.int .i64 (s / 18446744073709551616))).other (fun e => n10'.out e.symm) 1 (.int .u64 (s % 18446744073709551616))
            replace hB := ext_put (ext_put hB (p := ⟨w.heap.size + 1, 0, none⟩) (Nat.le_succ _) (.int .i64 (s / 18446744073709551616))) (p := ⟨w.heap.size + 1, 1, none⟩) (Nat.le_succ _) (.int .u64 (s % 18446744073709551616))
            generalize (w4.setCell ⟨w.heap.size + 1, 0, none⟩ (.int .i64 (s / 18446744073709551616))).setCell ⟨w.heap.size + 1, 1, none⟩ (.int .u64 (s % 18446744073709551616)) = W5 at *
            have F1 := Lib.hid (dFar_any f f (two_lead LF.out) (two_lead LF.out) (two_leads LF.out LF.out))
            have F2 := Lib.hid (dFar_any s s (two_lead LS.out) (two_lead LS.out) (two_leads LS.out LS.out))
            obtain ⟨d0, d1, -, -⟩ := id hD
            obtain ⟨r0, r1, -, -⟩ := id hR
            by_cases q1 : 1000000 < f - f
            · have Z : Hid (steadyB r gs = false) := Lib.hid (steady_fast hlt NL.out (by rw [← HEF.out]; exact q1))
              rw [decide_eq_true q1] at F1
              replace q1 := Lib.hid q1
              go_wp2_with fail
              refine (F1.out _).mono ?_; rintro e w6 ⟨rfl, h⟩
              replace hB := Lib.hid (ext_step hB h)
              clear h d0 d1 r0 r1 hR hT hD hE
              go_wp2_with fail
              go_ret
              exact ⟨ret_bool Z.out.symm, hB.out⟩
            · rw [decide_eq_false q1] at F1
              replace q1 := Lib.hid q1
              go_wp2_with fail
              refine (F1.out _).mono ?_; rintro e w6 ⟨rfl, h⟩
              clear d0 d1 r0 r1
              replace hR := hR.below h
              replace hT := hT.below h
              replace hD := hD.below h
              replace hE := hE.below h
              replace hB := ext_step hB h
              clear h
              obtain ⟨d0, d1, -, -⟩ := id hE
              obtain ⟨r0, r1, -, -⟩ := id hT
              by_cases q2 : 1000000 < s - s
              · have Z : Hid (steadyB r gs = false) := Lib.hid (steady_slow hlt NM.out (by rw [← HES.out]; exact q2))
                rw [decide_eq_true q2] at F2
                replace q2 := Lib.hid q2
                go_wp2_with fail
                refine (F2.out _).mono ?_; rintro e w7 ⟨rfl, h⟩
                replace hB := Lib.hid (ext_step hB h)
                clear h d0 d1 r0 r1 hR hT hD hE
                go_wp2_with fail
                go_ret
                exact ⟨ret_bool Z.out.symm, hB.out⟩
              · rw [decide_eq_false q2] at F2
                have Z : Hid (Sofar r gs (k + 1) f s) := Lib.hid ⟨LF.out, LS.out, NL.out, NM.out, ST.out.next NL.out NM.out (by rw [← HEF.out]; have := q1.out; omega) (by rw [← HES.out]; omega)⟩
                replace q2 := Lib.hid q2
                go_wp2_with fail
                refine (F2.out _).mono ?_; rintro e w7 ⟨rfl, h⟩
                replace hR := hR.below h
                replace hT := hT.below h
                replace hB := ext_step hB h
                clear h d0 d1 r0 r1 hD hE
                go_wp2_with fail
                go_roundw
                case rel => exact ⟨k + 1, f, s, hlt, by go_num, hB, hR, hT, Z⟩
                case measure => simp [intOf]; omega
          · have NM : Hid (MostOf (slowI r) gs (k + 1) hi) := Lib.hid (SM.out.keep hkp.out (by rw [← HES.out]; omega))
            have q6 : ¬ 0 < o2 := of_decide_eq_false (O2.out.trans (decide_eq_false q5))
            replace q5 := Lib.hid q5
            go_upto_region 11 with fail
            have F1 := Lib.hid (dFar_any f f (two_lead LF.out) (two_lead LF.out) (two_leads LF.out LF.out))
            have F2 := Lib.hid (dFar_any s hi (two_lead LS.out) (two_lead LH.out) (two_leads LH.out LS.out))
            obtain ⟨d0, d1, -, -⟩ := id hD
            obtain ⟨r0, r1, -, -⟩ := id hR
            by_cases q1 : 1000000 < f - f
            · have Z : Hid (steadyB r gs = false) := Lib.hid (steady_fast hlt NL.out (by rw [← HEF.out]; exact q1))
              rw [decide_eq_true q1] at F1
              replace q1 := Lib.hid q1
              go_wp2_with fail
              refine (F1.out _).mono ?_; rintro e w6 ⟨rfl, h⟩
              replace hB := Lib.hid (ext_step hB h)
              clear h d0 d1 r0 r1 hR hT hD hE
              go_wp2_with fail
              go_ret
              exact ⟨ret_bool Z.out.symm, hB.out⟩
            · rw [decide_eq_false q1] at F1
              replace q1 := Lib.hid q1
              go_wp2_with fail
              refine (F1.out _).mono ?_; rintro e w6 ⟨rfl, h⟩
              clear d0 d1 r0 r1
              replace hR := hR.below h
              replace hT := hT.below h
              replace hD := hD.below h
              replace hE := hE.below h
              replace hB := ext_step hB h
              clear h
              obtain ⟨d0, d1, -, -⟩ := id hE
              obtain ⟨r0, r1, -, -⟩ := id hT
              by_cases q2 : 1000000 < hi - s
              · have Z : Hid (steadyB r gs = false) := Lib.hid (steady_slow hlt NM.out (by rw [← HES.out]; exact q2))
                rw [decide_eq_true q2] at F2
                replace q2 := Lib.hid q2
                go_wp2_with fail
                refine (F2.out _).mono ?_; rintro e w7 ⟨rfl, h⟩
                replace hB := Lib.hid (ext_step hB h)
                clear h d0 d1 r0 r1 hR hT hD hE
                go_wp2_with fail
                go_ret
                exact ⟨ret_bool Z.out.symm, hB.out⟩
              · rw [decide_eq_false q2] at F2
                have Z : Hid (Sofar r gs (k + 1) f hi) := Lib.hid ⟨LF.out, LH.out, NL.out, NM.out, ST.out.next NL.out NM.out (by rw [← HEF.out]; have := q1.out; omega) (by rw [← HES.out]; omega)⟩
                replace q2 := Lib.hid q2
                go_wp2_with fail
                refine (F2.out _).mono ?_; rintro e w7 ⟨rfl, h⟩
                replace hR := hR.below h
                replace hT := hT.below h
                replace hB := ext_step hB h
                clear h d0 d1 r0 r1 hD hE
                go_wp2_with fail
                go_roundw
                case rel => exact ⟨k + 1, f, hi, hlt, by go_num, hB, hR, hT, Z⟩
                case measure => simp [intOf]; omega
        · have NL : Hid (LeastOf (fastI r) gs (k + 1) lo) := Lib.hid (SL.out.keep hkp.out (by rw [← HEF.out]; omega))
          have q4 : ¬ o1 < 0 := of_decide_eq_false (O1.out.trans (decide_eq_false q3))
          replace q3 := Lib.hid q3
          go_upto_region 9 with fail
          obtain ⟨d0, d1, -, -⟩ := id hE
          obtain ⟨r0, r1, -, -⟩ := id hT
          go_wp2_with fail
          refine (C2.out _).mono ?_; rintro e w4 ⟨rfl, h⟩
          clear d0 d1 r0 r1 q4
          replace hR := hR.below h
          replace hT := hT.below h
          replace hD := hD.below h
          replace hE := hE.below h
          replace hB := ext_step hB h
          clear h
          by_cases q5 : hi < s
          · have NM : Hid (MostOf (slowI r) gs (k + 1) s) := Lib.hid (by rw [HES.out]; exact SM.out.take_ (Or.inr (by rw [← HES.out]; exact q5)))
            have q6 : 0 < o2 := of_decide_eq_true (O2.out.trans (decide_eq_true q5))
            replace q5 := Lib.hid q5
            obtain ⟨d0, d1, -, -⟩ := id hE
            obtain ⟨r0, r1, r2, r3⟩ := id hT
            go_upto_region 11 with fail
            clear d0 d1 r0 r1 r2 r3
            replace hT := hT.set_ (s / 18446744073709551616) (s % 18446744073709551616)
            replace hR := (hR.other (b' := w.heap.size + 1) (by omega) 0 (.int .i64 (s / 18446744073709551616))).other (b' := w.heap.size + 1) (by omega) 1 (.int .u64 (s % 18446744073709551616))
            replace hD := (hD.other (fun e => n9'.out e.symm) 0 (.int .i64 (s / 18446744073709551616))).other (fun e => n9'.out e.symm) 1 (.int .u64 (s % 18446744073709551616))
            replace hE := (hE.other (fun e => n10'.out e.symm) 0 (.int .i64 (s / 18446744073709551616))).other (fun e => n10'.out e.symm) 1 (.int .u64 (s % 18446744073709551616))
            replace hB := ext_put (ext_put hB (p := ⟨w.heap.size + 1, 0, none⟩) (Nat.le_succ _) (.int .i64 (s / 18446744073709551616))) (p := ⟨w.heap.size + 1, 1, none⟩) (Nat.le_succ _) (.int .u64 (s % 18446744073709551616))
            generalize (w4.setCell ⟨w.heap.size + 1, 0, none⟩ (.int .i64 (s / 18446744073709551616))).setCell ⟨w.heap.size + 1, 1, none⟩ (.int .u64 (s % 18446744073709551616)) = W5 at *
            have F1 := Lib.hid (dFar_any lo f (two_lead LL.out) (two_lead LF.out) (two_leads LF.out LL.out))
            have F2 := Lib.hid (dFar_any s s (two_lead LS.out) (two_lead LS.out) (two_leads LS.out LS.out))
            obtain ⟨d0, d1, -, -⟩ := id hD
            obtain ⟨r0, r1, -, -⟩ := id hR
            by_cases q1 : 1000000 < f - lo
            · have Z : Hid (steadyB r gs = false) := Lib.hid (steady_fast hlt NL.out (by rw [← HEF.out]; exact q1))
              rw [decide_eq_true q1] at F1
              replace q1 := Lib.hid q1
              go_wp2_with fail
              refine (F1.out _).mono ?_; rintro e w6 ⟨rfl, h⟩
              replace hB := Lib.hid (ext_step hB h)
              clear h d0 d1 r0 r1 hR hT hD hE
              go_wp2_with fail
              go_ret
              exact ⟨ret_bool Z.out.symm, hB.out⟩
            · rw [decide_eq_false q1] at F1
              replace q1 := Lib.hid q1
              go_wp2_with fail
              refine (F1.out _).mono ?_; rintro e w6 ⟨rfl, h⟩
              clear d0 d1 r0 r1
              replace hR := hR.below h
              replace hT := hT.below h
              replace hD := hD.below h
              replace hE := hE.below h
              replace hB := ext_step hB h
              clear h
              obtain ⟨d0, d1, -, -⟩ := id hE
              obtain ⟨r0, r1, -, -⟩ := id hT
              by_cases q2 : 1000000 < s - s
              · have Z : Hid (steadyB r gs = false) := Lib.hid (steady_slow hlt NM.out (by rw [← HES.out]; exact q2))
                rw [decide_eq_true q2] at F2
                replace q2 := Lib.hid q2
                go_wp2_with fail
                refine (F2.out _).mono ?_; rintro e w7 ⟨rfl, h⟩
                replace hB := Lib.hid (ext_step hB h)
                clear h d0 d1 r0 r1 hR hT hD hE
                go_wp2_with fail
                go_ret
                exact ⟨ret_bool Z.out.symm, hB.out⟩
              · rw [decide_eq_false q2] at F2
                have Z : Hid (Sofar r gs (k + 1) lo s) := Lib.hid ⟨LL.out, LS.out, NL.out, NM.out, ST.out.next NL.out NM.out (by rw [← HEF.out]; have := q1.out; omega) (by rw [← HES.out]; omega)⟩
                replace q2 := Lib.hid q2
                go_wp2_with fail
                refine (F2.out _).mono ?_; rintro e w7 ⟨rfl, h⟩
                replace hR := hR.below h
                replace hT := hT.below h
                replace hB := ext_step hB h
                clear h d0 d1 r0 r1 hD hE
                go_wp2_with fail
                go_roundw
                case rel => exact ⟨k + 1, lo, s, hlt, by go_num, hB, hR, hT, Z⟩
                case measure => simp [intOf]; omega
          · have NM : Hid (MostOf (slowI r) gs (k + 1) hi) := Lib.hid (SM.out.keep hkp.out (by rw [← HES.out]; omega))
            have q6 : ¬ 0 < o2 := of_decide_eq_false (O2.out.trans (decide_eq_false q5))
            replace q5 := Lib.hid q5
            go_upto_region 11 with fail
            have F1 := Lib.hid (dFar_any lo f (two_lead LL.out) (two_lead LF.out) (two_leads LF.out LL.out))
            have F2 := Lib.hid (dFar_any s hi (two_lead LS.out) (two_lead LH.out) (two_leads LH.out LS.out))
            obtain ⟨d0, d1, -, -⟩ := id hD
            obtain ⟨r0, r1, -, -⟩ := id hR
            by_cases q1 : 1000000 < f - lo
            · have Z : Hid (steadyB r gs = false) := Lib.hid (steady_fast hlt NL.out (by rw [← HEF.out]; exact q1))
              rw [decide_eq_true q1] at F1
              replace q1 := Lib.hid q1
              go_wp2_with fail
              refine (F1.out _).mono ?_; rintro e w6 ⟨rfl, h⟩
              replace hB := Lib.hid (ext_step hB h)
              clear h d0 d1 r0 r1 hR hT hD hE
              go_wp2_with fail
              go_ret
              exact ⟨ret_bool Z.out.symm, hB.out⟩
            · rw [decide_eq_false q1] at F1
              replace q1 := Lib.hid q1
              go_wp2_with fail
              refine (F1.out _).mono ?_; rintro e w6 ⟨rfl, h⟩
              clear d0 d1 r0 r1
              replace hR := hR.below h
              replace hT := hT.below h
              replace hD := hD.below h
              replace hE := hE.below h
              replace hB := ext_step hB h
              clear h
              obtain ⟨d0, d1, -, -⟩ := id hE
              obtain ⟨r0, r1, -, -⟩ := id hT
              by_cases q2 : 1000000 < hi - s
              · have Z : Hid (steadyB r gs = false) := Lib.hid (steady_slow hlt NM.out (by rw [← HES.out]; exact q2))
                rw [decide_eq_true q2] at F2
                replace q2 := Lib.hid q2
                go_wp2_with fail
                refine (F2.out _).mono ?_; rintro e w7 ⟨rfl, h⟩
                replace hB := Lib.hid (ext_step hB h)
                clear h d0 d1 r0 r1 hR hT hD hE
                go_wp2_with fail
                go_ret
                exact ⟨ret_bool Z.out.symm, hB.out⟩
              · rw [decide_eq_false q2] at F2
                have Z : Hid (Sofar r gs (k + 1) lo hi) := Lib.hid ⟨LL.out, LH.out, NL.out, NM.out, ST.out.next NL.out NM.out (by rw [← HEF.out]; have := q1.out; omega) (by rw [← HES.out]; omega)⟩
                replace q2 := Lib.hid q2
                go_wp2_with fail
                refine (F2.out _).mono ?_; rintro e w7 ⟨rfl, h⟩
                replace hR := hR.below h
                replace hT := hT.below h
                replace hB := ext_step hB h
                clear h d0 d1 r0 r1 hD hE
                go_wp2_with fail
                go_roundw
                case rel => exact ⟨k + 1, lo, hi, hlt, by go_num, hB, hR, hT, Z⟩
                case measure => simp [intOf]; omega
    · obtain rfl : k = gs.length := by omega
      have Z : Hid (steadyB r gs = true) := Lib.hid HS.out.2.2.2.2.all
      clear hR hT
      go_wp2_with fail
      go_ret
      exact ⟨ret_bool Z.out.symm, hB⟩
end Go.Proofs.Ytljgfallhnlebaa
