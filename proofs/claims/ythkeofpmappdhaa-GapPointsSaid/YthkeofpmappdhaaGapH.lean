/- The document's own hull of gaps, walked. -/
import Derived.Test.YthkeofpmappdhaaGapR
import Derived.Lib.MinMax
import Derived.StillTailTactics
namespace Go.Proofs.Ythkeofpmappdhaa
open Go.RowKit

/-- The least of a number and of the lower ends. -/
def lowLo (gs : List (Int × Int)) (a : Int) : Int := gs.foldl (fun m g => min m g.1) a
/-- The greatest of a number and of the upper ends. -/
def topHi (gs : List (Int × Int)) (b : Int) : Int := gs.foldl (fun m g => max m g.2) b
/-- Hull: the ends and the error's number. -/
def hullI (gs : List (Int × Int)) : Int × Int × Int :=
  if allRight gs = false then (0, 0, 10) else
    match gs with
    | [] => (0, 0, 13)
    | g :: t => (lowLo t g.1, topHi t g.2, 0)
theorem lowLo_next {gs : List (Int × Int)} {k : Nat} (hk : k < gs.length) (a : Int) : lowLo (gs.take (k + 1)) a = min (lowLo (gs.take k) a) gs[k].1 := by
  unfold lowLo; rw [List.take_succ_eq_append_getElem hk, List.foldl_append]; rfl
theorem topHi_next {gs : List (Int × Int)} {k : Nat} (hk : k < gs.length) (b : Int) : topHi (gs.take (k + 1)) b = max (topHi (gs.take k) b) gs[k].2 := by
  unfold topHi; rw [List.take_succ_eq_append_getElem hk, List.foldl_append]; rfl
theorem lowLo_cons (g : Int × Int) (t : List (Int × Int)) : lowLo (g :: t) g.1 = lowLo t g.1 := by
  unfold lowLo; rw [List.foldl_cons, Int.min_self]
theorem topHi_cons (g : Int × Int) (t : List (Int × Int)) : topHi (g :: t) g.2 = topHi t g.2 := by
  unfold topHi; rw [List.foldl_cons, Int.max_self]
theorem low_one {gs : List (Int × Int)} (h : 0 < gs.length) : lowLo (gs.take 1) gs[0].1 = gs[0].1 := by
  cases gs with
  | nil => simp at h
  | cons g t => exact (lowLo_cons g []).trans rfl
theorem top_one {gs : List (Int × Int)} (h : 0 < gs.length) : topHi (gs.take 1) gs[0].2 = gs[0].2 := by
  cases gs with
  | nil => simp at h
  | cons g t => exact (topHi_cons g []).trans rfl
theorem hull_cons {gs : List (Int × Int)} (h : 0 < gs.length) (hr : ¬ allRight gs = false) : hullI gs = (lowLo gs gs[0].1, topHi gs gs[0].2, 0) := by
  cases gs with
  | nil => simp at h
  | cons g t =>
    show (if allRight (g :: t) = false then _ else (lowLo t g.1, topHi t g.2, 0)) = (lowLo (g :: t) g.1, topHi (g :: t) g.2, 0)
    rw [if_neg hr, lowLo_cons, topHi_cons]

set_option maxRecDepth 100000 in
set_option maxHeartbeats 2000000 in
theorem rHull_any (v : Value) (gs : List (Int × Int)) (w : World) (hv : Gaps w w.heap.size v gs) (hn : gs.length ≤ 1000000) :
    Calls Try.prog 24 #[v] w fun e w' => GapE (hullI gs) e ∧ Below w.heap.size w w' := by
  have CR := Lib.hid fun W (h : Gaps W W.heap.size v gs) => rights_any v gs W h hn
  obtain ⟨A, c, rfl, hc, hr⟩ := id hv
  have HR := Lib.hid hr
  clear hr
  have hR := At2.new w (.int .i64 0) (.int .i64 0) 31
  have B0 := grew1 w (.cells #[.int .i64 0, .int .i64 0] 31)
  have hv1 := (hv.below B0).more (Nat.le_of_lt (Nat.lt_of_lt_of_eq (Nat.lt_succ_self _) (World.size_alloc w (.cells #[.int .i64 0, .int .i64 0] 31)).symm))
  by_cases har : allRight gs = false
  · have HS : Hid (hullI gs = (0, 0, 10)) := Lib.hid (if_pos har)
    go_enter Try.func24, Try.ntmps24
    go_wp2_with fail
    refine (CR.out _ hv1).mono ?_; rintro e w1 ⟨rfl, h1⟩
    rw [har]
    replace hR := hR.below h1
    have HB1 := Lib.hid (ext_step B0 h1)
    obtain ⟨r0, r1, r2, r3⟩ := id hR
    clear har hv hv1
    go_wp2_with fail
    exact bodyPost_ret (v := .tuple #[.agg #[.int .i64 (0), .int .i64 (0)], .int .i64 10]) (by simp [results, Try.results24, go_sem, r0, r1]) rfl ⟨by rw [HS.out]; rfl, ext_put (ext_put HB1.out (Nat.le_refl _) _) (Nat.le_refl _) _⟩
  · have hat : allRight gs = true := by simpa using har
    by_cases h0 : gs.length = 0
    · obtain rfl := List.length_eq_zero_iff.1 h0
      have HS : Hid (hullI [] = (0, 0, 13)) := Lib.hid rfl
      clear hv har h0
      go_enter Try.func24, Try.ntmps24
      go_wp2_with fail
      refine (CR.out _ hv1).mono ?_; rintro e w1 ⟨rfl, h1⟩
      rw [hat]
      replace hR := hR.below h1
      have HB1 := Lib.hid (ext_step B0 h1)
      obtain ⟨r0, r1, r2, r3⟩ := id hR
      clear hv1
      go_wp2_with fail
      exact bodyPost_ret (v := .tuple #[.agg #[.int .i64 (0), .int .i64 (0)], .int .i64 13]) (by simp [results, Try.results24, go_sem, r0, r1]) rfl ⟨by rw [HS.out]; rfl, ext_put (ext_put HB1.out (Nat.le_refl _) _) (Nat.le_refl _) _⟩
    · have hpos : 0 < gs.length := by omega
      have HS : Hid (hullI gs = (lowLo gs gs[0].1, topHi gs gs[0].2, 0)) := Lib.hid (hull_cons hpos har)
      have T1 : Hid (lowLo (gs.take 1) gs[0].1 = gs[0].1) := Lib.hid (low_one hpos)
      have T2 : Hid (topHi (gs.take 1) gs[0].2 = gs[0].2) := Lib.hid (top_one hpos)
      have eb : ((gs.length : Int) == 0) = false := by rw [beq_eq_false_iff_ne]; omega
      obtain ⟨ad, rfl, hb, hcell⟩ := HR.out hpos
      obtain ⟨d1, d2⟩ := hcell 0 hpos
      have D1 : Hid (w.cell? ad = some (.int .i64 gs[0].1)) := Lib.hid d1
      have D2 : Hid (w.cell? ⟨ad.block, ad.off + 1, none⟩ = some (.int .i64 gs[0].2)) := Lib.hid d2
      have N1 : Hid (∀ k (h : k < gs.length), lowLo (gs.take (k + 1)) gs[0].1 = min (lowLo (gs.take k) gs[0].1) gs[k].1) := Lib.hid fun k h => lowLo_next h _
      have N2 : Hid (∀ k (h : k < gs.length), topHi (gs.take (k + 1)) gs[0].2 = max (topHi (gs.take k) gs[0].2) gs[k].2) := Lib.hid fun k h => topHi_next h _
      clear d1 d2 har h0 hcell hv
      generalize gs[0].1 = x0 at *
      generalize gs[0].2 = y0 at *
      go_enter Try.func24, Try.ntmps24
      go_wp2_with fail
      refine (CR.out _ hv1).mono ?_; rintro e w1 ⟨rfl, h1⟩
      rw [hat]
      have hB1 : Below w.heap.size w w1 := ext_step B0 h1
      have c1 : w1.cell? ad = _ := (hB1.cell hb).trans D1.out
      have c2 : w1.cell? ⟨ad.block, ad.off + 1, none⟩ = some (.int .i64 y0) := (hB1.cell (show (Addr.mk ad.block (ad.off + 1) none).block < _ from hb)).trans D2.out
      replace hR := (hR.below h1).alloc (.cells #[.int .i64 x0, .int .i64 y0] 31)
      have hO := At2.new w1 (.int .i64 x0) (.int .i64 y0) 31
      have HB1 := Lib.hid hB1
      have HB2 := Lib.hid (ext_alloc hB1 (.cells #[.int .i64 x0, .int .i64 y0] 31))
      clear hv1 hat D1 D2 hB1
      go_wp2_with fail
      change Code.wp _ _ _ _ (w1.alloc (.cells #[.int .i64 x0, .int .i64 y0] 31))
      have hne : w.heap.size ≠ w1.heap.size := by have := HB1.out.size; have := hR.lt; have hs := Lib.hid h1.size; have := hs.out; simp at this; omega
      have hle : w.heap.size ≤ w1.heap.size := HB1.out.size
      generalize w1.alloc (.cells #[.int .i64 x0, .int .i64 y0] 31) = W at *
      generalize w1.heap.size = gO at *
      clear h1 HB1 B0 CR c1 c2
      go_loopw [5] (fun i wr => ∃ k : Nat, k ≤ gs.length ∧ i = .int .i64 k ∧ Below w.heap.size w wr ∧ At2 wr w.heap.size (.int .i64 0) (.int .i64 0) ∧ At2 wr gO (.int .i64 (lowLo (gs.take k) x0)) (.int .i64 (topHi (gs.take k) y0))) (fun i _ => gs.length - (intOf i).toNat)
      case atStart => exact ⟨1, hpos, rfl, HB2.out, hR, by rw [T1.out, T2.out]; exact hO⟩
      case round =>
        obtain ⟨k, hk, rfl, hB, hR, hO⟩ := hrel
        by_cases hlt : k < gs.length
        · have hcell : ∀ j (h : j < gs.length), w.cell? (ad.add (j * 2)) = some (.int .i64 gs[j].1) ∧ w.cell? (ad.add (j * 2 + 1)) = some (.int .i64 gs[j].2) := by
            obtain ⟨ad', e, _, h⟩ := HR.out (by omega)
            injection e with e; subst e; exact h
          rename_i wr _ _
          have c1 : _ = _ := (hB.cell (by rw [block_of_add]; exact hb)).trans (hcell k hlt).1
          have c2 : _ = _ := (hB.cell (by rw [block_of_add]; exact hb)).trans (hcell k hlt).2
          rw [add_succ] at c2
          have N1 := Lib.hid (N1.out k hlt)
          have N2 := Lib.hid (N2.out k hlt)
          clear hcell
          obtain ⟨o0, o1, o2, o3⟩ := id hO
          generalize gs[k].1 = a at *
          generalize gs[k].2 = b at *
          generalize lowLo (gs.take k) x0 = p at *
          generalize topHi (gs.take k) y0 = q at *
          go_wp2_with fail
          go_still_tail 8, (by kernel_rfl)
          change wpList _ _ _ _ _ wr.drew
          have hB2 : Below w.heap.size w wr.drew := below_drewN hB 1
          have hR2 := hR.drew
          have hO2 := hO.drew
          have c1' : wr.drew.cell? (ad.add (k * 2)) = some (.int .i64 a) := c1
          have c2' : wr.drew.cell? ⟨(ad.add (k * 2)).block, (ad.add (k * 2)).off + 1, none⟩ = some (.int .i64 b) := c2
          clear o0 o1 o2 o3 c1 c2 hO hR hB
          generalize wr.drew = W2 at *
          obtain ⟨o0, o1, o2, o3⟩ := id hO2
          go_wp2_with fail
          change Code.wp _ _ _ _ (W2.setCell ⟨gO, 0, none⟩ (.int .i64 (min p a)))
          have hB3 : Below w.heap.size w (W2.setCell ⟨gO, 0, none⟩ (.int .i64 (min p a))) := ext_put hB2 hle _
          have hR3 := hR2.other hne 0 (.int .i64 (min p a))
          have hO3 := hO2.set0 (.int .i64 (min p a))
          have hbk : (ad.add (k * 2)).block ≠ gO := by rw [block_of_add]; omega
          have c2'' : (W2.setCell ⟨gO, 0, none⟩ (.int .i64 (min p a))).cell? ⟨(ad.add (k * 2)).block, (ad.add (k * 2)).off + 1, none⟩ = some (.int .i64 b) := by
            rw [World.cell?_setCell_other _ _ _ _ (fun e => hbk (by injection e with e1 _ _; exact e1.symm))]; exact c2'
          have c1'' : (W2.setCell ⟨gO, 0, none⟩ (.int .i64 (min p a))).cell? (ad.add (k * 2)) = some (.int .i64 a) := by
            rw [World.cell?_setCell_other _ _ _ _ (fun e => hbk (by rw [← e]))]; exact c1'
          clear o0 o1 o2 o3 c1' c2' hO2 hR2 hB2
          generalize W2.setCell ⟨gO, 0, none⟩ (.int .i64 (min p a)) = W3 at *
          obtain ⟨o0, o1, o2, o3⟩ := id hO3
          go_still_tail 8, (by kernel_rfl)
          change wpList _ _ _ _ _ W3.drew
          have hB4 : Below w.heap.size w W3.drew := below_drewN hB3 1
          have hR4 := hR3.drew
          have hO4 := hO3.drew
          clear o0 o1 o2 o3 c1'' c2'' hO3 hR3 hB3
          generalize W3.drew = W4 at *
          obtain ⟨o0, o1, o2, o3⟩ := id hO4
          go_wp2_with fail
          go_roundw
          case rel =>
            refine ⟨k + 1, hlt, by go_num, ext_put hB4 hle _, hR4.other hne 1 _, ?_⟩
            rw [N1.out, N2.out]
            exact hO4.set1 _
          case measure => simp [intOf]; omega
        · obtain rfl : k = gs.length := by omega
          rw [List.take_length] at hO
          generalize lowLo gs x0 = p at *
          generalize topHi gs y0 = q at *
          obtain ⟨r0, r1, r2, r3⟩ := id hR
          obtain ⟨o0, o1, -, -⟩ := id hO
          have HB := Lib.hid hB
          clear hR hO hB
          go_wp2_with fail
          exact bodyPost_ret (v := .tuple #[.agg #[.int .i64 p, .int .i64 q], .int .i64 0]) (by simp [results, Try.results24, go_sem, r0, r1]) rfl ⟨by rw [HS.out]; rfl, ext_put (ext_put HB.out (Nat.le_refl _) _) (Nat.le_refl _) _⟩
end Go.Proofs.Ythkeofpmappdhaa
