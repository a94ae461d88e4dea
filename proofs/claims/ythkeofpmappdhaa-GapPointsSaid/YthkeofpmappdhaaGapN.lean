/- The document's own meeting of gaps, walked. -/
import Derived.Test.YthkeofpmappdhaaGapR
import Derived.Lib.MinMax
import Derived.StillTailTactics
namespace Go.Proofs.Ythkeofpmappdhaa
open Go.RowKit

/-- The greatest of a number and of the lower ends. -/
def topLo (gs : List (Int × Int)) (a : Int) : Int := gs.foldl (fun m g => max m g.1) a
/-- The least of a number and of the upper ends. -/
def lowHi (gs : List (Int × Int)) (b : Int) : Int := gs.foldl (fun m g => min m g.2) b
/-- Meet: the ends and the error's number. -/
def meetI (gs : List (Int × Int)) : Int × Int × Int :=
  if allRight gs = false then (0, 0, 10) else
    if lowHi gs 9223372036854775807 < topLo gs (-9223372036854775808) then (0, 0, 13) else (topLo gs (-9223372036854775808), lowHi gs 9223372036854775807, 0)
theorem topLo_next {gs : List (Int × Int)} {k : Nat} (hk : k < gs.length) (a : Int) : topLo (gs.take (k + 1)) a = max (topLo (gs.take k) a) gs[k].1 := by
  unfold topLo; rw [List.take_succ_eq_append_getElem hk, List.foldl_append]; rfl
theorem lowHi_next {gs : List (Int × Int)} {k : Nat} (hk : k < gs.length) (b : Int) : lowHi (gs.take (k + 1)) b = min (lowHi (gs.take k) b) gs[k].2 := by
  unfold lowHi; rw [List.take_succ_eq_append_getElem hk, List.foldl_append]; rfl

set_option maxRecDepth 100000 in
set_option maxHeartbeats 2000000 in
theorem rMeet_any (v : Value) (gs : List (Int × Int)) (w : World) (hv : Gaps w w.heap.size v gs) (hn : gs.length ≤ 1000000) :
    Calls Try.prog 22 #[v] w fun e w' => GapE (meetI gs) e ∧ Below w.heap.size w w' := by
  have CR := Lib.hid fun W (h : Gaps W W.heap.size v gs) => rights_any v gs W h hn
  obtain ⟨A, c, rfl, hc, hr⟩ := id hv
  have HR := Lib.hid hr
  clear hr
  have hR := At2.new w (.int .i64 0) (.int .i64 0) 31
  have B0 := grew1 w (.cells #[.int .i64 0, .int .i64 0] 31)
  have hv1 := (hv.below B0).more (Nat.le_of_lt (Nat.lt_of_lt_of_eq (Nat.lt_succ_self _) (World.size_alloc w (.cells #[.int .i64 0, .int .i64 0] 31)).symm))
  by_cases har : allRight gs = false
  · have HS : Hid (meetI gs = (0, 0, 10)) := Lib.hid (if_pos har)
    go_enter Try.func22, Try.ntmps22
    go_wp2_with fail
    refine (CR.out _ hv1).mono ?_; rintro e w1 ⟨rfl, h1⟩
    rw [har]
    replace hR := hR.below h1
    have HB1 := Lib.hid (ext_step B0 h1)
    obtain ⟨r0, r1, r2, r3⟩ := id hR
    clear har hv hv1
    go_wp2_with fail
    exact bodyPost_ret (v := .tuple #[.agg #[.int .i64 (0), .int .i64 (0)], .int .i64 10]) (by simp [results, Try.results22, go_sem, r0, r1]) rfl ⟨by rw [HS.out]; rfl, ext_put (ext_put HB1.out (Nat.le_refl _) _) (Nat.le_refl _) _⟩
  · have hat : allRight gs = true := by simpa using har
    go_enter Try.func22, Try.ntmps22
    go_wp2_with fail
    refine (CR.out _ hv1).mono ?_; rintro e w1 ⟨rfl, h1⟩
    rw [hat]
    replace hR := (hR.below h1).alloc (.cells #[.int .i64 (-9223372036854775808), .int .i64 9223372036854775807] 31)
    have hO := At2.new w1 (.int .i64 (-9223372036854775808)) (.int .i64 9223372036854775807) 31
    have HB1 := Lib.hid (ext_step B0 h1)
    have HB2 := Lib.hid (ext_alloc HB1.out (.cells #[.int .i64 (-9223372036854775808), .int .i64 9223372036854775807] 31))
    clear har hv1
    go_wp2_with fail
    change Code.wp _ _ _ _ (w1.alloc (.cells #[.int .i64 (-9223372036854775808), .int .i64 9223372036854775807] 31))
    have hne : w.heap.size ≠ w1.heap.size := by have := HB1.out.size; have := hR.lt; have hs := Lib.hid h1.size; have := hs.out; simp at this; omega
    have hle : w.heap.size ≤ w1.heap.size := HB1.out.size
    generalize w1.alloc (.cells #[.int .i64 (-9223372036854775808), .int .i64 9223372036854775807] 31) = W at *
    generalize w1.heap.size = gO at *
    clear h1 HB1 B0 hv CR
    go_loopw [5] (fun i wr => ∃ k : Nat, k ≤ gs.length ∧ i = .int .i64 k ∧ Below w.heap.size w wr ∧ At2 wr w.heap.size (.int .i64 0) (.int .i64 0) ∧ At2 wr gO (.int .i64 (topLo (gs.take k) (-9223372036854775808))) (.int .i64 (lowHi (gs.take k) 9223372036854775807))) (fun i _ => gs.length - (intOf i).toNat)
    case atStart => exact ⟨0, Nat.zero_le _, rfl, HB2.out, hR, hO⟩
    case round =>
      obtain ⟨k, hk, rfl, hB, hR, hO⟩ := hrel
      by_cases hlt : k < gs.length
      · obtain ⟨ad, rfl, hb, hcell⟩ := HR.out (by omega)
        rename_i wr _ _
        have c1 : _ = _ := (hB.cell (by rw [block_of_add]; exact hb)).trans (hcell k hlt).1
        have c2 : _ = _ := (hB.cell (by rw [block_of_add]; exact hb)).trans (hcell k hlt).2
        rw [add_succ] at c2
        have N1 := Lib.hid (topLo_next hlt (-9223372036854775808))
        have N2 := Lib.hid (lowHi_next hlt 9223372036854775807)
        clear hcell
        obtain ⟨o0, o1, o2, o3⟩ := id hO
        generalize gs[k].1 = a at *
        generalize gs[k].2 = b at *
        generalize topLo (gs.take k) (-9223372036854775808) = p at *
        generalize lowHi (gs.take k) 9223372036854775807 = q at *
        go_wp2_with fail
        go_still_tail 8, (by kernel_rfl)
        change wpList _ _ _ _ _ wr.drew
        have hB2 : Below w.heap.size w wr.drew := below_drewN hB 1
        have hR2 := hR.drew
        have hO2 := hO.drew
        have c1' : wr.drew.cell? (ad.add (k * 2)) = some (.int .i64 a) := c1
        have c2' : wr.drew.cell? ⟨(ad.add (k * 2)).block, (ad.add (k * 2)).off + 1, none⟩ = some (.int .i64 b) := c2
        clear o0 o1 o2 o3 c1 c2 hO hR hB
        generalize wr.drew = W2 at *
        obtain ⟨o0, o1, o2, o3⟩ := id hO2
        go_wp2_with fail
        change Code.wp _ _ _ _ (W2.setCell ⟨gO, 0, none⟩ (.int .i64 (max p a)))
        have hB3 : Below w.heap.size w (W2.setCell ⟨gO, 0, none⟩ (.int .i64 (max p a))) := ext_put hB2 hle _
        have hR3 := hR2.other hne 0 (.int .i64 (max p a))
        have hO3 := hO2.set0 (.int .i64 (max p a))
        have hbk : (ad.add (k * 2)).block ≠ gO := by rw [block_of_add]; omega
        have c2'' : (W2.setCell ⟨gO, 0, none⟩ (.int .i64 (max p a))).cell? ⟨(ad.add (k * 2)).block, (ad.add (k * 2)).off + 1, none⟩ = some (.int .i64 b) := by
          rw [World.cell?_setCell_other _ _ _ _ (fun e => hbk (by injection e with e1 _ _; exact e1.symm))]; exact c2'
        have c1'' : (W2.setCell ⟨gO, 0, none⟩ (.int .i64 (max p a))).cell? (ad.add (k * 2)) = some (.int .i64 a) := by
          rw [World.cell?_setCell_other _ _ _ _ (fun e => hbk (by rw [← e]))]; exact c1'
        clear o0 o1 o2 o3 c1' c2' hO2 hR2 hB2
        generalize W2.setCell ⟨gO, 0, none⟩ (.int .i64 (max p a)) = W3 at *
        obtain ⟨o0, o1, o2, o3⟩ := id hO3
        go_still_tail 8, (by kernel_rfl)
        change wpList _ _ _ _ _ W3.drew
        have hB4 : Below w.heap.size w W3.drew := below_drewN hB3 1
        have hR4 := hR3.drew
        have hO4 := hO3.drew
        clear o0 o1 o2 o3 c1'' c2'' hO3 hR3 hB3
        generalize W3.drew = W4 at *
        obtain ⟨o0, o1, o2, o3⟩ := id hO4
        go_wp2_with fail
        go_roundw
        case rel =>
          refine ⟨k + 1, hlt, by go_num, ext_put hB4 hle _, hR4.other hne 1 _, ?_⟩
          rw [N1.out, N2.out]
          exact hO4.set1 _
        case measure => simp [intOf]; omega
      · obtain rfl : k = gs.length := by omega
        rw [List.take_length] at hO
        have CQ := Lib.hid (rRight_any (topLo gs (-9223372036854775808)) (lowHi gs 9223372036854775807))
        have HS : Hid (meetI gs = if lowHi gs 9223372036854775807 < topLo gs (-9223372036854775808) then (0, 0, 13) else (topLo gs (-9223372036854775808), lowHi gs 9223372036854775807, 0)) := Lib.hid (if_neg (by rw [hat]; decide))
        clear hat
        generalize topLo gs (-9223372036854775808) = p at *
        generalize lowHi gs 9223372036854775807 = q at *
        obtain ⟨o0, o1, -, -⟩ := id hO
        by_cases hr : q < p
        · have e1 : decide (p ≤ q) = false := decide_eq_false (by omega)
          have HT : Hid (meetI gs = (0, 0, 13)) := Lib.hid (HS.out.trans (if_pos hr))
          clear hr HS
          go_wp2_with fail
          refine (CQ.out _).mono ?_; rintro e w2 ⟨rfl, h2⟩
          rw [e1]
          have HB := Lib.hid (ext_step hB h2)
          obtain ⟨r0, r1, r2, r3⟩ := hR.below h2
          clear o0 o1 hR hO
          go_wp2_with fail
          exact bodyPost_ret (v := .tuple #[.agg #[.int .i64 (0), .int .i64 (0)], .int .i64 13]) (by simp [results, Try.results22, go_sem, r0, r1]) rfl ⟨by rw [HT.out]; rfl, ext_put (ext_put HB.out (Nat.le_refl _) _) (Nat.le_refl _) _⟩
        · have e1 : decide (p ≤ q) = true := decide_eq_true (by omega)
          have HT : Hid (meetI gs = (p, q, 0)) := Lib.hid (HS.out.trans (if_neg hr))
          clear hr HS
          go_wp2_with fail
          refine (CQ.out _).mono ?_; rintro e w2 ⟨rfl, h2⟩
          rw [e1]
          have HB := Lib.hid (ext_step hB h2)
          obtain ⟨r0, r1, r2, r3⟩ := hR.below h2
          obtain ⟨p0, p1, -, -⟩ := hO.below h2
          clear o0 o1 hR hO
          go_wp2_with fail
          exact bodyPost_ret (v := .tuple #[.agg #[.int .i64 p, .int .i64 q], .int .i64 0]) (by simp [results, Try.results22, go_sem, r0, r1]) rfl ⟨by rw [HT.out]; rfl, ext_put (ext_put HB.out (Nat.le_refl _) _) (Nat.le_refl _) _⟩
end Go.Proofs.Ythkeofpmappdhaa
