/- Law 3's GapBack, walked from package gap's contracts. -/
import Derived.Test.YthkeofpmappdhaaGapC
namespace Go.Proofs.Ythkeofpmappdhaa
open Go.RowKit

/-! what three gaps have together, and their hull -/
theorem allRight3 (a b c : Int × Int) : allRight [a, b, c] = (decide (a.1 ≤ a.2) && (decide (b.1 ≤ b.2) && (decide (c.1 ≤ c.2) && true))) := rfl
theorem meet_turn (a b c : Int × Int) : meetI [c, b, a] = meetI [a, b, c] := by
  have h1 : allRight [c, b, a] = allRight [a, b, c] := by
    rw [allRight3, allRight3]
    cases decide (a.1 ≤ a.2) <;> cases decide (b.1 ≤ b.2) <;> cases decide (c.1 ≤ c.2) <;> rfl
  have h2 : topLo [c, b, a] (-9223372036854775808) = topLo [a, b, c] (-9223372036854775808) := by
    simp only [topLo, List.foldl_cons, List.foldl_nil]; omega
  have h3 : lowHi [c, b, a] 9223372036854775807 = lowHi [a, b, c] 9223372036854775807 := by
    simp only [lowHi, List.foldl_cons, List.foldl_nil]; omega
  unfold meetI
  rw [h1, h2, h3]
theorem hull_turn (a b c : Int × Int) : hullI [b, c, a] = hullI [a, b, c] := by
  have h1 : allRight [b, c, a] = allRight [a, b, c] := by
    rw [allRight3, allRight3]
    cases decide (a.1 ≤ a.2) <;> cases decide (b.1 ≤ b.2) <;> cases decide (c.1 ≤ c.2) <;> rfl
  show (if allRight [b, c, a] = false then (0, 0, 10) else (lowLo [c, a] b.1, topHi [c, a] b.2, 0)) = (if allRight [a, b, c] = false then (0, 0, 10) else (lowLo [b, c] a.1, topHi [b, c] a.2, 0))
  have h2 : lowLo [c, a] b.1 = lowLo [b, c] a.1 := by simp only [lowLo, List.foldl_cons, List.foldl_nil]; omega
  have h3 : topHi [c, a] b.2 = topHi [b, c] a.2 := by simp only [topHi, List.foldl_cons, List.foldl_nil]; omega
  rw [h1, h2, h3]
/-- Where three gaps meet: the first two do, and what they have meets the third in the same; it is within the hull. -/
theorem meet_steps {a b c : Int × Int} {m1 m2 x1 x2 x3 : Int} (hf : Fits a.1 ∧ Fits b.1 ∧ Fits c.1 ∧ Fits a.2 ∧ Fits b.2 ∧ Fits c.2) (hm : meetI [a, b, c] = (m1, m2, 0)) (hx : hullI [a, b, c] = (x1, x2, x3)) :
    ∃ p1 p2, meetI [a, b] = (p1, p2, 0) ∧ meetI [(p1, p2), c] = (m1, m2, 0) ∧ m1 ≤ m2 ∧ x1 ≤ m1 ∧ m2 ≤ x2 ∧ Fits p1 ∧ Fits p2 := by
  obtain ⟨⟨f1, f2⟩, ⟨f3, f4⟩, ⟨f5, f6⟩, ⟨f7, f8⟩, ⟨f9, f10⟩, ⟨f11, f12⟩⟩ := hf
  by_cases har : allRight [a, b, c] = false
  · unfold meetI at hm
    rw [if_pos har] at hm
    injection hm with _ hm
    injection hm with _ hm
    cases hm
  have hr := har
  rw [allRight3] at hr
  simp only [Bool.and_true, Bool.not_eq_false, Bool.and_eq_true, decide_eq_true_eq] at hr
  obtain ⟨r1, r2, r3⟩ := hr
  have e2 : hullI [a, b, c] = (lowLo [b, c] a.1, topHi [b, c] a.2, 0) := if_neg har
  rw [e2] at hx
  injection hx with hx1 hx
  injection hx with hx2 _
  unfold meetI at hm
  rw [if_neg har] at hm
  by_cases hlt : lowHi [a, b, c] 9223372036854775807 < topLo [a, b, c] (-9223372036854775808)
  · rw [if_pos hlt] at hm
    injection hm with _ hm
    injection hm with _ hm
    cases hm
  rw [if_neg hlt] at hm
  injection hm with hm1 hm
  injection hm with hm2 _
  simp only [topLo, lowHi, lowLo, topHi, List.foldl_cons, List.foldl_nil] at hm1 hm2 hx1 hx2 hlt
  have g1 : topLo [a, b] (-9223372036854775808) = max a.1 b.1 := by simp only [topLo, List.foldl_cons, List.foldl_nil]; omega
  have g2 : lowHi [a, b] 9223372036854775807 = min a.2 b.2 := by simp only [lowHi, List.foldl_cons, List.foldl_nil]; omega
  refine ⟨max a.1 b.1, min a.2 b.2, ?_, ?_, by omega, by omega, by omega, ⟨by omega, by omega⟩, ⟨by omega, by omega⟩⟩
  · have k : allRight [a, b] = true := by
      show (decide (a.1 ≤ a.2) && (decide (b.1 ≤ b.2) && true)) = true
      rw [decide_eq_true r1, decide_eq_true r2]; rfl
    unfold meetI
    rw [if_neg (by rw [k]; decide), g1, g2, if_neg (by omega)]
  · have k : allRight [(max a.1 b.1, min a.2 b.2), c] = true := by
      show (decide (max a.1 b.1 ≤ min a.2 b.2) && (decide (c.1 ≤ c.2) && true)) = true
      rw [decide_eq_true r3, decide_eq_true (by omega)]; rfl
    have g3 : topLo [(max a.1 b.1, min a.2 b.2), c] (-9223372036854775808) = m1 := by simp only [topLo, List.foldl_cons, List.foldl_nil]; omega
    have g4 : lowHi [(max a.1 b.1, min a.2 b.2), c] 9223372036854775807 = m2 := by simp only [lowHi, List.foldl_cons, List.foldl_nil]; omega
    unfold meetI
    rw [if_neg (by rw [k]; decide), g3, g4, if_neg (by omega)]
theorem shift_back {a b y s1 s2 s3 : Int} (ha : Fits a) (hb : Fits b) (h : shiftI a b y = (s1, s2, s3)) (h0 : s3 = 0) : a ≤ b ∧ s1 = a + y ∧ s2 = b + y ∧ Fits s1 ∧ Fits s2 ∧ shiftI s1 s2 (-y) = (a, b, 0) := by
  subst h0
  unfold shiftI at h
  by_cases hr : b < a
  · rw [if_pos hr] at h
    injection h with _ h
    injection h with _ h
    cases h
  rw [if_neg hr] at h
  by_cases hf : Fits (a + y) ∧ Fits (b + y)
  · rw [if_pos hf] at h
    injection h with h1 h
    injection h with h2 _
    subst h1; subst h2
    have e1 : a + y + -y = a := by omega
    have e2 : b + y + -y = b := by omega
    refine ⟨by omega, rfl, rfl, hf.1, hf.2, ?_⟩
    unfold shiftI
    rw [if_neg (by omega), e1, e2, if_pos ⟨ha, hb⟩]
  · rw [if_neg hf] at h
    injection h with _ h
    injection h with _ h
    cases h
/-- When a gap is moved back. -/
def BackOk (ib : Bool) (s y : Int) : Prop := ib = true → s = 0 ∧ -9223372036854775808 < y
/-- A call over a list of gaps that was just written out. -/
theorem Gaps.fresh (w : World) (t : TypeId) (cs : Array Value) (gs : List (Int × Int)) (hcs : cs = (cellsG gs).toArray) (g : Nat) (hg : Hid (g = w.heap.size)) : Gaps (w.alloc (.cells cs t)) (w.alloc (.cells cs t)).heap.size (.slice (some ⟨g, 0, none⟩) gs.length gs.length) gs := by
  have hg := hg.out; subst hg
  exact Gaps.new w t cs gs hcs

set_option maxRecDepth 100000 in
set_option maxHeartbeats 8000000 in
theorem gapBack_any (G : GapC) (a1 a2 b1 b2 c1 c2 y : Int) (w : World) (ha1 : Fits a1) (ha2 : Fits a2) (hb1 : Fits b1) (hb2 : Fits b2) (hc1 : Fits c1) (hc2 : Fits c2) (hy : Fits y) :
    Calls Try.prog 6 #[gapV a1 a2, gapV b1 b2, gapV c1 c2, .int .i64 y] w fun e w' => e = .returned (.bool true) ∧ Below w.heap.size w w' := by
  have CAL := Lib.hid (alive3_any G)
  have CS := Lib.hid fun W => G.shift a1 a2 y W ha1 ha2 hy
  have HSH := Lib.hid fun s1 s2 s3 => @shift_back a1 a2 y s1 s2 s3 ha1 ha2
  have CT := Lib.hid fun s1 s2 W (f1 : Fits s1) (f2 : Fits s2) (f3 : Fits (-y)) => G.shift s1 s2 (-y) W f1 f2 f3
  have CW := Lib.hid fun s1 s2 W (f1 : Fits s1) (f2 : Fits s2) => G.width s1 s2 W f1 f2
  have hF : ∀ g ∈ [(a1, a2), (b1, b2), (c1, c2)], Fits g.1 ∧ Fits g.2 := by
    intro g hg; simp at hg; rcases hg with rfl | rfl | rfl <;> exact ⟨by assumption, by assumption⟩
  have hF2 : ∀ g ∈ [(c1, c2), (b1, b2), (a1, a2)], Fits g.1 ∧ Fits g.2 := by
    intro g hg; simp at hg; rcases hg with rfl | rfl | rfl <;> exact ⟨by assumption, by assumption⟩
  have hF3 : ∀ g ∈ [(b1, b2), (c1, c2), (a1, a2)], Fits g.1 ∧ Fits g.2 := by
    intro g hg; simp at hg; rcases hg with rfl | rfl | rfl <;> exact ⟨by assumption, by assumption⟩
  have hF4 : ∀ g ∈ [(a1, a2), (b1, b2)], Fits g.1 ∧ Fits g.2 := by
    intro g hg; simp at hg; rcases hg with rfl | rfl <;> exact ⟨by assumption, by assumption⟩
  have hF5 : ∀ p1 p2, Fits p1 → Fits p2 → ∀ g ∈ [(p1, p2), (c1, c2)], Fits g.1 ∧ Fits g.2 := by
    intro p1 p2 _ _ g hg; simp at hg; rcases hg with rfl | rfl <;> exact ⟨by assumption, by assumption⟩
  have CM1 := Lib.hid fun g W (hg : Hid (g = W.heap.size)) => G.meet (.slice (some ⟨g, 0, none⟩) 3 3) [(a1, a2), (b1, b2), (c1, c2)] (W.alloc (.cells #[.int .i64 a1, .int .i64 a2, .int .i64 b1, .int .i64 b2, .int .i64 c1, .int .i64 c2] 23)) (Gaps.fresh W _ _ [(a1, a2), (b1, b2), (c1, c2)] rfl g hg) hF (show 3 ≤ 1000000 by decide)
  have CM2 := Lib.hid fun g W (hg : Hid (g = W.heap.size)) => G.meet (.slice (some ⟨g, 0, none⟩) 3 3) [(c1, c2), (b1, b2), (a1, a2)] (W.alloc (.cells #[.int .i64 c1, .int .i64 c2, .int .i64 b1, .int .i64 b2, .int .i64 a1, .int .i64 a2] 23)) (Gaps.fresh W _ _ [(c1, c2), (b1, b2), (a1, a2)] rfl g hg) hF2 (show 3 ≤ 1000000 by decide)
  have CH1 := Lib.hid fun g W (hg : Hid (g = W.heap.size)) => G.hull (.slice (some ⟨g, 0, none⟩) 3 3) [(a1, a2), (b1, b2), (c1, c2)] (W.alloc (.cells #[.int .i64 a1, .int .i64 a2, .int .i64 b1, .int .i64 b2, .int .i64 c1, .int .i64 c2] 23)) (Gaps.fresh W _ _ [(a1, a2), (b1, b2), (c1, c2)] rfl g hg) hF (show 3 ≤ 1000000 by decide)
  have CH2 := Lib.hid fun g W (hg : Hid (g = W.heap.size)) => G.hull (.slice (some ⟨g, 0, none⟩) 3 3) [(b1, b2), (c1, c2), (a1, a2)] (W.alloc (.cells #[.int .i64 b1, .int .i64 b2, .int .i64 c1, .int .i64 c2, .int .i64 a1, .int .i64 a2] 23)) (Gaps.fresh W _ _ [(b1, b2), (c1, c2), (a1, a2)] rfl g hg) hF3 (show 3 ≤ 1000000 by decide)
  have CM3 := Lib.hid fun g W (hg : Hid (g = W.heap.size)) => G.meet (.slice (some ⟨g, 0, none⟩) 2 2) [(a1, a2), (b1, b2)] (W.alloc (.cells #[.int .i64 a1, .int .i64 a2, .int .i64 b1, .int .i64 b2] 23)) (Gaps.fresh W _ _ [(a1, a2), (b1, b2)] rfl g hg) hF4 (show 2 ≤ 1000000 by decide)
  have CM4 := Lib.hid fun p1 p2 (f1 : Fits p1) (f2 : Fits p2) g W (hg : Hid (g = W.heap.size)) => G.meet (.slice (some ⟨g, 0, none⟩) 2 2) [(p1, p2), (c1, c2)] (W.alloc (.cells #[.int .i64 p1, .int .i64 p2, .int .i64 c1, .int .i64 c2] 23)) (Gaps.fresh W _ _ [(p1, p2), (c1, c2)] rfl g hg) (hF5 p1 p2 f1 f2) (show 2 ≤ 1000000 by decide)
  have CI := Lib.hid fun p q r s => G.within p q r s
  rw [meet_turn] at CM2
  rw [hull_turn] at CH2
  have HST := Lib.hid fun m1 m2 x1 x2 x3 => @meet_steps (a1, a2) (b1, b2) (c1, c2) m1 m2 x1 x2 x3 ⟨ha1, hb1, hc1, ha2, hb2, hc2⟩
  unfold GapE at CS CM1 CM2 CH1 CH2 CM3 CM4 CT
  generalize hsh : shiftI a1 a2 y = sh at CS
  generalize hme : meetI [(a1, a2), (b1, b2), (c1, c2)] = me at CM1 CM2
  generalize hhu : hullI [(a1, a2), (b1, b2), (c1, c2)] = hu at CH1 CH2
  obtain ⟨s1, s2, s3⟩ := sh
  obtain ⟨m1, m2, m3⟩ := me
  obtain ⟨x1, x2, x3⟩ := hu
  dsimp only at CS CM1 CM2 CH1 CH2
  replace HSH := Lib.hid (HSH.out s1 s2 s3 hsh)
  have HST := Lib.hid fun (h : m3 = 0) => HST.out m1 m2 x1 x2 x3 (by rw [hme, h]) hhu
  have HFA := Lib.hid ha1
  have HFB := Lib.hid ha2
  have HFY := Lib.hid hy
  clear G hF hF2 hF3 hF4 hF5 ha1 ha2 hb1 hb2 hc1 hc2 hy hsh hme hhu
  have hA := ((At2.new w (.int .i64 a1) (.int .i64 a2) 23).alloc (.cells #[.int .i64 b1, .int .i64 b2] 23)).alloc (.cells #[.int .i64 c1, .int .i64 c2] 23)
  have hB := (At2.new (w.alloc (.cells #[.int .i64 a1, .int .i64 a2] 23)) (.int .i64 b1) (.int .i64 b2) 23).alloc (.cells #[.int .i64 c1, .int .i64 c2] 23)
  have hC := At2.new ((w.alloc (.cells #[.int .i64 a1, .int .i64 a2] 23)).alloc (.cells #[.int .i64 b1, .int .i64 b2] 23)) (.int .i64 c1) (.int .i64 c2) 23
  rw [World.size_alloc] at hB
  rw [World.size_alloc, World.size_alloc] at hC
  have hBL := grew3 w (.cells #[.int .i64 a1, .int .i64 a2] 23) (.cells #[.int .i64 b1, .int .i64 b2] 23) (.cells #[.int .i64 c1, .int .i64 c2] 23)
  go_enter Try.func6, Try.ntmps6
  go_wp2_with fail
  refine (CAL.out _).mono ?_; rintro e w1 ⟨rfl, h⟩
  replace hA := hA.below h; replace hB := hB.below h; replace hC := hC.below h; replace hBL := ext_step hBL h; clear h
  obtain ⟨k0, k1, -, -⟩ := id hA
  go_wp2_with fail
  refine (CS.out w1).mono ?_; rintro e w2 ⟨rfl, h⟩
  clear k0 k1
  replace hA := (hA.below h).alloc (.cells #[.int .i64 s1, .int .i64 s2] 23)
  replace hB := (hB.below h).alloc (.cells #[.int .i64 s1, .int .i64 s2] 23)
  replace hC := (hC.below h).alloc (.cells #[.int .i64 s1, .int .i64 s2] 23)
  replace hBL := ext_alloc (ext_step hBL h) (.cells #[.int .i64 s1, .int .i64 s2] 23); clear h
  have hS := At2.new w2 (.int .i64 s1) (.int .i64 s2) 23
  go_upto_region 4 with fail
  generalize w2.heap.size = gS at *
  generalize w2.alloc (.cells #[.int .i64 s1, .int .i64 s2] 23) = W2 at *
  go_cut [38] (fun b wx => ∃ ib : Bool, b = .bool ib ∧ BackOk ib s3 y ∧ W2 = wx)
  case first =>
    by_cases h3 : s3 = 0
    · subst h3
      by_cases hb : -9223372036854775808 < y
      · have HI : BackOk true 0 y := fun _ => ⟨rfl, hb⟩
        go_wp2_with fail
        go_meet
        exact ⟨true, rfl, HI, rfl⟩
      · go_wp2_with fail
        go_meet
        exact ⟨false, rfl, (fun h => by cases h), rfl⟩
    · have e3 : (s3 == 0) = false := by simpa using h3
      go_wp2_with fail
      go_meet
      exact ⟨false, rfl, (fun h => by cases h), rfl⟩
  case rest =>
    obtain ⟨ib, rfl, HI, rfl⟩ := hcut
    go_upto_if 38 with fail
    go_cut [11, 12] (fun _ _ wx => At2 wx w.heap.size (.int .i64 a1) (.int .i64 a2) ∧ At2 wx (w.heap.size + 1) (.int .i64 b1) (.int .i64 b2) ∧ At2 wx (w.heap.size + 1 + 1) (.int .i64 c1) (.int .i64 c2) ∧ Below w.heap.size w wx)
    case first =>
      cases ib
      · go_wp2_with fail
        go_meet
        exact ⟨hA, hB, hC, hBL⟩
      · obtain ⟨h3, hyy⟩ := HI rfl
        obtain ⟨k1, rfl, rfl, k4, k5, k6⟩ := HSH.out h3
        have fn : Fits (-y) := by have := HFY.out; unfold Fits at *; omega
        replace CT := Lib.hid fun W => CT.out (a1 + y) (a2 + y) W k4 k5 fn
        rw [k6] at CT
        dsimp only at CT
        have CW1 := Lib.hid fun W => CW.out (a1 + y) (a2 + y) W k4 k5
        have CW2 := Lib.hid fun W => CW.out a1 a2 W HFA.out HFB.out
        rw [if_pos (by omega), show a2 + y - (a1 + y) = a2 - a1 by omega] at CW1
        rw [if_pos k1] at CW2
        have HN := Lib.hid fn
        have hn1 : IntKind.i64.wrap (-y) = -y := IntWalk.i64_in _ (by unfold Fits at fn; omega)
        obtain ⟨q0, q1, -, -⟩ := id hS
        clear CM1 CM2 CH1 CH2 CM3 CM4 CI HST HSH CS CAL HI CW fn k1 k4 k5 k6 h3 hyy HFA HFB HFY HN
        generalize a1 + y = u1 at *
        generalize a2 + y = u2 at *
        go_wp2_with fail
        refine (CT.out W2).mono ?_; rintro e w3 ⟨rfl, h⟩
        clear q0 q1
        replace hA := (hA.below h).alloc (.cells #[.int .i64 a1, .int .i64 a2] 23)
        replace hB := (hB.below h).alloc (.cells #[.int .i64 a1, .int .i64 a2] 23)
        replace hC := (hC.below h).alloc (.cells #[.int .i64 a1, .int .i64 a2] 23)
        replace hS := (hS.below h).alloc (.cells #[.int .i64 a1, .int .i64 a2] 23)
        replace hBL := ext_alloc (ext_step hBL h) (.cells #[.int .i64 a1, .int .i64 a2] 23); clear h
        have hT := At2.new w3 (.int .i64 a1) (.int .i64 a2) 23
        go_upto_region 6 with fail
        generalize w3.heap.size = gT at *
        generalize w3.alloc (.cells #[.int .i64 a1, .int .i64 a2] 23) = W3 at *
        go_region_held3 (fun w' => w'.cell? ⟨w.heap.size, 0, none⟩ = some (.int .i64 a1) ∧ w'.cell? ⟨w.heap.size, 1, none⟩ = some (.int .i64 a2) ∧ w'.cell? ⟨gS, 0, none⟩ = some (.int .i64 u1) ∧ w'.cell? ⟨gS, 1, none⟩ = some (.int .i64 u2) ∧ w'.cell? ⟨gT, 0, none⟩ = some (.int .i64 a1) ∧ w'.cell? ⟨gT, 1, none⟩ = some (.int .i64 a2)) (exact ⟨hA.c0, hA.c1, hS.c0, hS.c1, hT.c0, hT.c1⟩)
          (first
            | (go_at_call_of 19 u1; refine (CW1.out _).mono ?_; rintro e v0 ⟨rfl, hq⟩; have hA := hA.below ⟨hq.os, hq.tape, hq.output, hq.size, hq.block⟩; have hB := hB.below ⟨hq.os, hq.tape, hq.output, hq.size, hq.block⟩; have hC := hC.below ⟨hq.os, hq.tape, hq.output, hq.size, hq.block⟩; have hS := hS.below ⟨hq.os, hq.tape, hq.output, hq.size, hq.block⟩; have hT := hT.below ⟨hq.os, hq.tape, hq.output, hq.size, hq.block⟩; have hBL := ext_step hBL ⟨hq.os, hq.tape, hq.output, hq.size, hq.block⟩; clear hq)
            | (go_at_call_of 19 a1; refine (CW2.out _).mono ?_; rintro e v1 ⟨rfl, hq⟩; have hA := hA.below ⟨hq.os, hq.tape, hq.output, hq.size, hq.block⟩; have hB := hB.below ⟨hq.os, hq.tape, hq.output, hq.size, hq.block⟩; have hC := hC.below ⟨hq.os, hq.tape, hq.output, hq.size, hq.block⟩; have hS := hS.below ⟨hq.os, hq.tape, hq.output, hq.size, hq.block⟩; have hT := hT.below ⟨hq.os, hq.tape, hq.output, hq.size, hq.block⟩; have hBL := ext_step hBL ⟨hq.os, hq.tape, hq.output, hq.size, hq.block⟩; clear hq))
        all_goals
          go_wp2_with fail
          go_meet
          exact ⟨hA, hB, hC, hBL⟩
    case rest =>
      clear hA hB hC hBL hS W2 HI HSH CS CT CW CAL
      obtain ⟨hA, hB, hC, hBL⟩ := hcut
      obtain ⟨k0, k1, -, -⟩ := id hA
      obtain ⟨k2, k3, -, -⟩ := id hB
      obtain ⟨k4, k5, -, -⟩ := id hC
      go_wp2_with fail
      clear k0 k1 k2 k3 k4 k5

      replace hA := hA.alloc (.cells #[.int .i64 a1, .int .i64 a2, .int .i64 b1, .int .i64 b2, .int .i64 c1, .int .i64 c2] 23)
      replace hB := hB.alloc (.cells #[.int .i64 a1, .int .i64 a2, .int .i64 b1, .int .i64 b2, .int .i64 c1, .int .i64 c2] 23)
      replace hC := hC.alloc (.cells #[.int .i64 a1, .int .i64 a2, .int .i64 b1, .int .i64 b2, .int .i64 c1, .int .i64 c2] 23)
      replace hBL := ext_alloc hBL (.cells #[.int .i64 a1, .int .i64 a2, .int .i64 b1, .int .i64 b2, .int .i64 c1, .int .i64 c2] 23)
      refine (CM1.out _ wc (Lib.hid rfl)).mono ?_; rintro e w4 ⟨rfl, h⟩
      replace hA := (hA.below h).alloc (.cells #[.int .i64 m1, .int .i64 m2] 23)
      replace hB := (hB.below h).alloc (.cells #[.int .i64 m1, .int .i64 m2] 23)
      replace hC := (hC.below h).alloc (.cells #[.int .i64 m1, .int .i64 m2] 23)
      replace hBL := ext_alloc (ext_step hBL h) (.cells #[.int .i64 m1, .int .i64 m2] 23); clear h
      have hM := At2.new w4 (.int .i64 m1) (.int .i64 m2) 23
      generalize hgM : w4.heap.size = gM at hM
      obtain ⟨k0, k1, -, -⟩ := id hA
      obtain ⟨k2, k3, -, -⟩ := id hB
      obtain ⟨k4, k5, -, -⟩ := id hC
      go_wp2_with fail
      clear k0 k1 k2 k3 k4 k5
      have Z : Hid (gM + 1 = (w4.alloc (.cells #[.int .i64 m1, .int .i64 m2] 23)).heap.size) := Lib.hid (by rw [World.size_alloc, hgM])
      generalize w4.alloc (.cells #[.int .i64 m1, .int .i64 m2] 23) = W4 at *
      replace hA := hA.alloc (.cells #[.int .i64 c1, .int .i64 c2, .int .i64 b1, .int .i64 b2, .int .i64 a1, .int .i64 a2] 23)
      replace hB := hB.alloc (.cells #[.int .i64 c1, .int .i64 c2, .int .i64 b1, .int .i64 b2, .int .i64 a1, .int .i64 a2] 23)
      replace hC := hC.alloc (.cells #[.int .i64 c1, .int .i64 c2, .int .i64 b1, .int .i64 b2, .int .i64 a1, .int .i64 a2] 23)
      replace hM := hM.alloc (.cells #[.int .i64 c1, .int .i64 c2, .int .i64 b1, .int .i64 b2, .int .i64 a1, .int .i64 a2] 23)
      replace hBL := ext_alloc hBL (.cells #[.int .i64 c1, .int .i64 c2, .int .i64 b1, .int .i64 b2, .int .i64 a1, .int .i64 a2] 23)
      refine (CM2.out _ W4 Z).mono ?_; rintro e w5 ⟨rfl, h⟩
      clear Z
      replace hA := (hA.below h).alloc (.cells #[.int .i64 m1, .int .i64 m2] 23)
      replace hB := (hB.below h).alloc (.cells #[.int .i64 m1, .int .i64 m2] 23)
      replace hC := (hC.below h).alloc (.cells #[.int .i64 m1, .int .i64 m2] 23)
      replace hM := (hM.below h).alloc (.cells #[.int .i64 m1, .int .i64 m2] 23)
      replace hBL := ext_alloc (ext_step hBL h) (.cells #[.int .i64 m1, .int .i64 m2] 23); clear h
      have hN := At2.new w5 (.int .i64 m1) (.int .i64 m2) 23
      generalize hgN : w5.heap.size = gN at hN
      obtain ⟨k0, k1, -, -⟩ := id hA
      obtain ⟨k2, k3, -, -⟩ := id hB
      obtain ⟨k4, k5, -, -⟩ := id hC
      go_wp2_with fail
      clear k0 k1 k2 k3 k4 k5
      have Z : Hid (gN + 1 = (w5.alloc (.cells #[.int .i64 m1, .int .i64 m2] 23)).heap.size) := Lib.hid (by rw [World.size_alloc, hgN])
      generalize w5.alloc (.cells #[.int .i64 m1, .int .i64 m2] 23) = W5 at *
      replace hA := hA.alloc (.cells #[.int .i64 a1, .int .i64 a2, .int .i64 b1, .int .i64 b2, .int .i64 c1, .int .i64 c2] 23)
      replace hB := hB.alloc (.cells #[.int .i64 a1, .int .i64 a2, .int .i64 b1, .int .i64 b2, .int .i64 c1, .int .i64 c2] 23)
      replace hC := hC.alloc (.cells #[.int .i64 a1, .int .i64 a2, .int .i64 b1, .int .i64 b2, .int .i64 c1, .int .i64 c2] 23)
      replace hM := hM.alloc (.cells #[.int .i64 a1, .int .i64 a2, .int .i64 b1, .int .i64 b2, .int .i64 c1, .int .i64 c2] 23)
      replace hN := hN.alloc (.cells #[.int .i64 a1, .int .i64 a2, .int .i64 b1, .int .i64 b2, .int .i64 c1, .int .i64 c2] 23)
      replace hBL := ext_alloc hBL (.cells #[.int .i64 a1, .int .i64 a2, .int .i64 b1, .int .i64 b2, .int .i64 c1, .int .i64 c2] 23)
      refine (CH1.out _ W5 Z).mono ?_; rintro e w6 ⟨rfl, h⟩
      clear Z
      replace hA := (hA.below h).alloc (.cells #[.int .i64 x1, .int .i64 x2] 23)
      replace hB := (hB.below h).alloc (.cells #[.int .i64 x1, .int .i64 x2] 23)
      replace hC := (hC.below h).alloc (.cells #[.int .i64 x1, .int .i64 x2] 23)
      replace hM := (hM.below h).alloc (.cells #[.int .i64 x1, .int .i64 x2] 23)
      replace hN := (hN.below h).alloc (.cells #[.int .i64 x1, .int .i64 x2] 23)
      replace hBL := ext_alloc (ext_step hBL h) (.cells #[.int .i64 x1, .int .i64 x2] 23); clear h
      have hX := At2.new w6 (.int .i64 x1) (.int .i64 x2) 23
      generalize hgX : w6.heap.size = gX at hX
      obtain ⟨k0, k1, -, -⟩ := id hA
      obtain ⟨k2, k3, -, -⟩ := id hB
      obtain ⟨k4, k5, -, -⟩ := id hC
      go_wp2_with fail
      clear k0 k1 k2 k3 k4 k5
      have Z : Hid (gX + 1 = (w6.alloc (.cells #[.int .i64 x1, .int .i64 x2] 23)).heap.size) := Lib.hid (by rw [World.size_alloc, hgX])
      generalize w6.alloc (.cells #[.int .i64 x1, .int .i64 x2] 23) = W6 at *
      replace hA := hA.alloc (.cells #[.int .i64 b1, .int .i64 b2, .int .i64 c1, .int .i64 c2, .int .i64 a1, .int .i64 a2] 23)
      replace hB := hB.alloc (.cells #[.int .i64 b1, .int .i64 b2, .int .i64 c1, .int .i64 c2, .int .i64 a1, .int .i64 a2] 23)
      replace hC := hC.alloc (.cells #[.int .i64 b1, .int .i64 b2, .int .i64 c1, .int .i64 c2, .int .i64 a1, .int .i64 a2] 23)
      replace hM := hM.alloc (.cells #[.int .i64 b1, .int .i64 b2, .int .i64 c1, .int .i64 c2, .int .i64 a1, .int .i64 a2] 23)
      replace hN := hN.alloc (.cells #[.int .i64 b1, .int .i64 b2, .int .i64 c1, .int .i64 c2, .int .i64 a1, .int .i64 a2] 23)
      replace hX := hX.alloc (.cells #[.int .i64 b1, .int .i64 b2, .int .i64 c1, .int .i64 c2, .int .i64 a1, .int .i64 a2] 23)
      replace hBL := ext_alloc hBL (.cells #[.int .i64 b1, .int .i64 b2, .int .i64 c1, .int .i64 c2, .int .i64 a1, .int .i64 a2] 23)
      refine (CH2.out _ W6 Z).mono ?_; rintro e w7 ⟨rfl, h⟩
      clear Z
      replace hA := (hA.below h).alloc (.cells #[.int .i64 x1, .int .i64 x2] 23)
      replace hB := (hB.below h).alloc (.cells #[.int .i64 x1, .int .i64 x2] 23)
      replace hC := (hC.below h).alloc (.cells #[.int .i64 x1, .int .i64 x2] 23)
      replace hM := (hM.below h).alloc (.cells #[.int .i64 x1, .int .i64 x2] 23)
      replace hN := (hN.below h).alloc (.cells #[.int .i64 x1, .int .i64 x2] 23)
      replace hX := (hX.below h).alloc (.cells #[.int .i64 x1, .int .i64 x2] 23)
      replace hBL := ext_alloc (ext_step hBL h) (.cells #[.int .i64 x1, .int .i64 x2] 23); clear h
      have hY := At2.new w7 (.int .i64 x1) (.int .i64 x2) 23
      generalize hgY : w7.heap.size = gY at hY
      go_upto_region 12 with fail
      generalize w7.alloc (.cells #[.int .i64 x1, .int .i64 x2] 23) = W7 at *
      by_cases h3 : m3 = 0
      · obtain ⟨p1, p2, q1, q2, l1, l2, l3, f1, f2⟩ := HST.out h3
        subst h3
        rw [q1] at CM3
        replace CM4 := Lib.hid fun g W hg => CM4.out p1 p2 f1 f2 g W hg
        rw [q2] at CM4
        replace CI := Lib.hid (CI.out m1 m2 x1 x2)
        rw [show decide (m1 ≤ m2 ∧ x1 ≤ m1 ∧ m2 ≤ x2) = true from decide_eq_true ⟨l1, l2, l3⟩] at CI
        dsimp only at CM3 CM4
        clear HST CM1 CM2 CH1 CH2 q1 q2 l1 l2 l3 f1 f2
        obtain ⟨k0, k1, -, -⟩ := id hM
        obtain ⟨k2, k3, -, -⟩ := id hN
        obtain ⟨k4, k5, -, -⟩ := id hX
        obtain ⟨k6, k7, -, -⟩ := id hY
        obtain ⟨k8, k9, -, -⟩ := id hA
        obtain ⟨k10, k11, -, -⟩ := id hB
        go_wp2_with fail
        clear k0 k1 k2 k3 k4 k5 k6 k7 k8 k9 k10 k11
        replace hA := hA.alloc (.cells #[.int .i64 a1, .int .i64 a2, .int .i64 b1, .int .i64 b2] 23)
        replace hB := hB.alloc (.cells #[.int .i64 a1, .int .i64 a2, .int .i64 b1, .int .i64 b2] 23)
        replace hC := hC.alloc (.cells #[.int .i64 a1, .int .i64 a2, .int .i64 b1, .int .i64 b2] 23)
        replace hM := hM.alloc (.cells #[.int .i64 a1, .int .i64 a2, .int .i64 b1, .int .i64 b2] 23)
        replace hN := hN.alloc (.cells #[.int .i64 a1, .int .i64 a2, .int .i64 b1, .int .i64 b2] 23)
        replace hX := hX.alloc (.cells #[.int .i64 a1, .int .i64 a2, .int .i64 b1, .int .i64 b2] 23)
        replace hY := hY.alloc (.cells #[.int .i64 a1, .int .i64 a2, .int .i64 b1, .int .i64 b2] 23)
        replace hBL := ext_alloc hBL (.cells #[.int .i64 a1, .int .i64 a2, .int .i64 b1, .int .i64 b2] 23)
        refine (CM3.out _ W7 (Lib.hid rfl)).mono ?_; rintro e w8 ⟨rfl, h⟩
        replace hA := (hA.below h).alloc (.cells #[.int .i64 p1, .int .i64 p2] 23)
        replace hB := (hB.below h).alloc (.cells #[.int .i64 p1, .int .i64 p2] 23)
        replace hC := (hC.below h).alloc (.cells #[.int .i64 p1, .int .i64 p2] 23)
        replace hM := (hM.below h).alloc (.cells #[.int .i64 p1, .int .i64 p2] 23)
        replace hN := (hN.below h).alloc (.cells #[.int .i64 p1, .int .i64 p2] 23)
        replace hX := (hX.below h).alloc (.cells #[.int .i64 p1, .int .i64 p2] 23)
        replace hY := (hY.below h).alloc (.cells #[.int .i64 p1, .int .i64 p2] 23)
        replace hBL := ext_alloc (ext_step hBL h) (.cells #[.int .i64 p1, .int .i64 p2] 23); clear h
        have hP := At2.new w8 (.int .i64 p1) (.int .i64 p2) 23
        generalize hgP : w8.heap.size = gP at hP
        obtain ⟨k0, k1, -, -⟩ := id hP
        obtain ⟨k2, k3, -, -⟩ := id hC
        go_wp2_with fail
        clear k0 k1 k2 k3
        have Z : Hid (gP + 1 = (w8.alloc (.cells #[.int .i64 p1, .int .i64 p2] 23)).heap.size) := Lib.hid (by rw [World.size_alloc, hgP])
        generalize w8.alloc (.cells #[.int .i64 p1, .int .i64 p2] 23) = W8 at *
        clear hA
        replace hB := hB.alloc (.cells #[.int .i64 p1, .int .i64 p2, .int .i64 c1, .int .i64 c2] 23)
        replace hC := hC.alloc (.cells #[.int .i64 p1, .int .i64 p2, .int .i64 c1, .int .i64 c2] 23)
        replace hM := hM.alloc (.cells #[.int .i64 p1, .int .i64 p2, .int .i64 c1, .int .i64 c2] 23)
        replace hN := hN.alloc (.cells #[.int .i64 p1, .int .i64 p2, .int .i64 c1, .int .i64 c2] 23)
        replace hX := hX.alloc (.cells #[.int .i64 p1, .int .i64 p2, .int .i64 c1, .int .i64 c2] 23)
        replace hY := hY.alloc (.cells #[.int .i64 p1, .int .i64 p2, .int .i64 c1, .int .i64 c2] 23)
        replace hP := hP.alloc (.cells #[.int .i64 p1, .int .i64 p2, .int .i64 c1, .int .i64 c2] 23)
        replace hBL := ext_alloc hBL (.cells #[.int .i64 p1, .int .i64 p2, .int .i64 c1, .int .i64 c2] 23)
        refine (CM4.out _ W8 Z).mono ?_; rintro e w9 ⟨rfl, h⟩
        clear Z
        replace hB := (hB.below h).alloc (.cells #[.int .i64 m1, .int .i64 m2] 23)
        replace hC := (hC.below h).alloc (.cells #[.int .i64 m1, .int .i64 m2] 23)
        replace hM := (hM.below h).alloc (.cells #[.int .i64 m1, .int .i64 m2] 23)
        replace hN := (hN.below h).alloc (.cells #[.int .i64 m1, .int .i64 m2] 23)
        replace hX := (hX.below h).alloc (.cells #[.int .i64 m1, .int .i64 m2] 23)
        replace hY := (hY.below h).alloc (.cells #[.int .i64 m1, .int .i64 m2] 23)
        replace hP := (hP.below h).alloc (.cells #[.int .i64 m1, .int .i64 m2] 23)
        replace hBL := ext_alloc (ext_step hBL h) (.cells #[.int .i64 m1, .int .i64 m2] 23); clear h
        have hQ := At2.new w9 (.int .i64 m1) (.int .i64 m2) 23
        generalize hgQ : w9.heap.size = gQ at hQ
        obtain ⟨k0, k1, -, -⟩ := id hQ
        obtain ⟨k2, k3, -, -⟩ := id hM
        obtain ⟨k4, k5, -, -⟩ := id hX
        go_wp2_with fail
        clear k0 k1 k2 k3 k4 k5
        refine (CI.out _).mono ?_; rintro e w10 ⟨rfl, h⟩
        go_wp2_with fail
        go_ret
        exact ⟨rfl, ext_step hBL h⟩
      · have e3 : (m3 != 0) = true := by simpa using h3
        clear HST CM1 CM2 CH1 CH2 CM3 CM4 CI
        obtain ⟨k0, k1, -, -⟩ := id hM
        obtain ⟨k2, k3, -, -⟩ := id hN
        obtain ⟨k4, k5, -, -⟩ := id hX
        obtain ⟨k6, k7, -, -⟩ := id hY
        go_wp2_with fail
        go_ret
        exact ⟨rfl, hBL⟩
end Go.Proofs.Ythkeofpmappdhaa
