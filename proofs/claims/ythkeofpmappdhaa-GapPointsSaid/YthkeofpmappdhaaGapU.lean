/- Package gap: Meet and Hull, by the function that combines a list, walked. -/
import Derived.Test.YthkeofpmappdhaaGapS
import Derived.Test.YthkeofpmappdhaaGapN
import Derived.Test.YthkeofpmappdhaaGapH
namespace Go.Proofs.Ythkeofpmappdhaa
open Go.RowKit

/-- What is answered of a list whose ends come to p and q. -/
def combI (gs : List (Int × Int)) (p q : Int) : Int × Int × Int := if allRight gs = false then (0, 0, 10) else neI p q

set_option maxRecDepth 100000 in
set_option maxHeartbeats 400000 in
theorem gMeet1_any (p q a b : Int) (w : World) :
    Calls Try.prog 36 #[.agg #[.int .i64 p, .int .i64 q], .agg #[.int .i64 a, .int .i64 b]] w fun e w' => e = .returned (.agg #[.int .i64 (max p a), .int .i64 (min q b)]) ∧ Below w.heap.size w w' := by
  go_enter Try.func36, Try.ntmps36
  go_wp2_with fail
  exact bodyPost_ret (v := .agg #[.int .i64 (max p a), .int .i64 (min q b)]) (by simp [results, Try.results36, go_sem]) rfl ⟨rfl, grew3 _ _ _ _⟩

set_option maxRecDepth 100000 in
set_option maxHeartbeats 400000 in
theorem gHull1_any (p q a b : Int) (w : World) :
    Calls Try.prog 37 #[.agg #[.int .i64 p, .int .i64 q], .agg #[.int .i64 a, .int .i64 b]] w fun e w' => e = .returned (.agg #[.int .i64 (min p a), .int .i64 (max q b)]) ∧ Below w.heap.size w w' := by
  go_enter Try.func37, Try.ntmps37
  go_wp2_with fail
  exact bodyPost_ret (v := .agg #[.int .i64 (min p a), .int .i64 (max q b)]) (by simp [results, Try.results37, go_sem]) rfl ⟨rfl, grew3 _ _ _ _⟩

set_option maxRecDepth 100000 in
set_option maxHeartbeats 2000000 in
theorem combMeet_any (v : Value) (gs : List (Int × Int)) (x y : Int) (w : World) (hv : Gaps w w.heap.size v gs) (hn : gs.length ≤ 1000000) :
    Calls Try.prog 35 #[v, .agg #[.int .i64 x, .int .i64 y], .func (.func 36) #[] #[]] w fun e w' => GapE (combI gs (topLo gs x) (lowHi gs y)) e ∧ Below w.heap.size w w' := by
  obtain ⟨A, c, rfl, hc, hr⟩ := hv
  have HR := Lib.hid hr
  clear hr
  have HA0 : Hid (topLo (gs.take 0) x = x ∧ lowHi (gs.take 0) y = y) := Lib.hid ⟨rfl, rfl⟩
  have hR := (At2.new (w.alloc (.cells #[.int .i64 x, .int .i64 y] 23)) (.int .i64 0) (.int .i64 0) 23).alloc (.cells #[.int .i64 x, .int .i64 y] 23)
  have hT := At2.new ((w.alloc (.cells #[.int .i64 x, .int .i64 y] 23)).alloc (.cells #[.int .i64 0, .int .i64 0] 23)) (.int .i64 x) (.int .i64 y) 23
  rw [World.size_alloc] at hR
  rw [World.size_alloc, World.size_alloc] at hT
  have B0 := grew3 w (.cells #[.int .i64 x, .int .i64 y] 23) (.cells #[.int .i64 0, .int .i64 0] 23) (.cells #[.int .i64 x, .int .i64 y] 23)
  go_enter Try.func35, Try.ntmps35
  go_wp2_with fail
  generalize ((w.alloc (.cells #[.int .i64 x, .int .i64 y] 23)).alloc (.cells #[.int .i64 0, .int .i64 0] 23)).alloc (.cells #[.int .i64 x, .int .i64 y] 23) = W at *
  go_loopw [14] (fun i wr => ∃ k : Nat, k ≤ gs.length ∧ i = .int .i64 k ∧ Below w.heap.size w wr ∧ At2 wr (w.heap.size + 1) (.int .i64 0) (.int .i64 0) ∧ At2 wr (w.heap.size + 1 + 1) (.int .i64 (topLo (gs.take k) x)) (.int .i64 (lowHi (gs.take k) y)) ∧ Hid (∀ j (hj : j < gs.length), j < k → gs[j].1 ≤ gs[j].2)) (fun i _ => gs.length - (intOf i).toNat)
  case atStart => exact ⟨0, Nat.zero_le _, rfl, B0, hR, by rw [HA0.out.1, HA0.out.2]; exact hT, Lib.hid fun j _ hj => absurd hj (by omega)⟩
  case round =>
    obtain ⟨k, hk, rfl, hB, hR, hT, hall⟩ := hrel
    by_cases hlt : k < gs.length
    · obtain ⟨ad, rfl, hb, hcell⟩ := HR.out (by omega)
      rename_i wr _ _
      have c1 : _ = _ := (hB.cell (by rw [block_of_add]; exact hb)).trans (hcell k hlt).1
      have c2 : _ = _ := (hB.cell (by rw [block_of_add]; exact hb)).trans (hcell k hlt).2
      rw [add_succ] at c2
      have HN : Hid (gs[k].2 < gs[k].1 → allRight gs = false) := Lib.hid (allRight_not hlt)
      have CR := Lib.hid (gRight_any gs[k].1 gs[k].2)
      have CF := Lib.hid (gMeet1_any (topLo (gs.take k) x) (lowHi (gs.take k) y) gs[k].1 gs[k].2)
      have N1 := Lib.hid (topLo_next hlt x)
      have N2 := Lib.hid (lowHi_next hlt y)
      have hall' : Hid (gs[k].1 ≤ gs[k].2 → ∀ j (hj : j < gs.length), j < k + 1 → gs[j].1 ≤ gs[j].2) := Lib.hid fun hle j hj hjk => by
        by_cases e : j = k
        · subst e; exact hle
        · exact hall.out j hj (by omega)
      clear hcell hb hall
      generalize gs[k].1 = a at *
      generalize gs[k].2 = b at *
      generalize topLo (gs.take k) x = p at *
      generalize lowHi (gs.take k) y = q at *
      replace hR := hR.alloc (.cells #[.int .i64 a, .int .i64 b] 23)
      replace hT := hT.alloc (.cells #[.int .i64 a, .int .i64 b] 23)
      have hG := At2.new wr (.int .i64 a) (.int .i64 b) 23
      replace hB := ext_alloc hB (.cells #[.int .i64 a, .int .i64 b] 23)
      by_cases hr : b < a
      · have HE := Lib.hid (HN.out hr)
        have HS : Hid (combI gs (topLo gs x) (lowHi gs y) = (0, 0, 10)) := Lib.hid (if_pos HE.out)
        have e1 : decide (a ≤ b) = false := decide_eq_false (by omega)
        rw [e1] at CR
        clear hr e1
        go_wp2_with fail
        refine (CR.out _).mono ?_; rintro e w1 ⟨rfl, h1⟩
        have HB := Lib.hid (ext_step hB h1)
        obtain ⟨r0, r1, r2, r3⟩ := hR.below h1
        clear c1 c2 hR hT hG hB h1
        go_wp2_with fail
        exact bodyPost_ret (v := .tuple #[.agg #[.int .i64 (0), .int .i64 (0)], .int .i64 10]) (by simp [results, Try.results35, go_sem, r0, r1]) rfl ⟨by rw [HS.out]; rfl, ext_put (ext_put HB.out (Nat.le_succ _) _) (Nat.le_succ _) _⟩
      · have e1 : decide (a ≤ b) = true := decide_eq_true (by omega)
        replace hall' := Lib.hid (hall'.out (by omega))
        rw [e1] at CR
        clear hr e1 HN
        go_wp2_with fail
        refine (CR.out _).mono ?_; rintro e w1 ⟨rfl, h1⟩
        clear c1 c2
        replace hR := hR.below h1
        replace hT := hT.below h1
        replace hG := hG.below h1
        replace hB := ext_step hB h1
        clear h1
        generalize wr.heap.size = gG at *
        obtain ⟨t0, t1, -, -⟩ := id hT
        obtain ⟨g0, g1, -, -⟩ := id hG
        go_wp2_with fail
        refine (CF.out _).mono ?_; rintro e w2 ⟨rfl, h2⟩
        clear t0 t1 g0 g1
        replace hR := hR.below h2
        replace hT := hT.below h2
        replace hB := ext_step hB h2
        obtain ⟨t0, t1, t2, t3⟩ := id hT
        clear h2
        go_wp2_with fail
        go_roundw
        case rel =>
          refine ⟨k + 1, hlt, by go_num, ext_put (ext_put hB (by show w.heap.size ≤ w.heap.size + 1 + 1; omega) _) (by show w.heap.size ≤ w.heap.size + 1 + 1; omega) _, (hR.other (by omega) 0 _).other (by omega) 1 _, ?_, hall'⟩
          rw [N1.out, N2.out]
          exact (hT.set0 _).set1 _
        case measure => simp [intOf]; omega
    · obtain rfl : k = gs.length := by omega
      rw [List.take_length] at hT
      have har : allRight gs = true := allRight_of fun j hj => hall.out j hj hj
      have HS : Hid (combI gs (topLo gs x) (lowHi gs y) = neI (topLo gs x) (lowHi gs y)) := Lib.hid (if_neg (by rw [har]; decide))
      have CE := Lib.hid (gNonEmpty_any (topLo gs x) (lowHi gs y))
      clear har hall
      unfold GapE at CE
      generalize neI (topLo gs x) (lowHi gs y) = r at HS CE
      obtain ⟨p, q, k⟩ := r
      dsimp only at CE
      obtain ⟨t0, t1, -, -⟩ := id hT
      go_wp2_with fail
      refine (CE.out _).mono ?_; rintro e w2 ⟨rfl, h2⟩
      have HB := Lib.hid (ext_step hB h2)
      obtain ⟨r0, r1, r2, r3⟩ := hR.below h2
      clear t0 t1 hR hT
      go_wp2_with fail
      exact bodyPost_ret (v := .tuple #[.agg #[.int .i64 p, .int .i64 q], .int .i64 k]) (by simp [results, Try.results35, go_sem, r0, r1]) rfl ⟨by rw [HS.out]; rfl, ext_put (ext_put HB.out (Nat.le_succ _) _) (Nat.le_succ _) _⟩

set_option maxRecDepth 100000 in
set_option maxHeartbeats 2000000 in
theorem combHull_any (v : Value) (gs : List (Int × Int)) (x y : Int) (w : World) (hv : Gaps w w.heap.size v gs) (hn : gs.length ≤ 1000000) :
    Calls Try.prog 35 #[v, .agg #[.int .i64 x, .int .i64 y], .func (.func 37) #[] #[]] w fun e w' => GapE (combI gs (lowLo gs x) (topHi gs y)) e ∧ Below w.heap.size w w' := by
  obtain ⟨A, c, rfl, hc, hr⟩ := hv
  have HR := Lib.hid hr
  clear hr
  have HA0 : Hid (lowLo (gs.take 0) x = x ∧ topHi (gs.take 0) y = y) := Lib.hid ⟨rfl, rfl⟩
  have hR := (At2.new (w.alloc (.cells #[.int .i64 x, .int .i64 y] 23)) (.int .i64 0) (.int .i64 0) 23).alloc (.cells #[.int .i64 x, .int .i64 y] 23)
  have hT := At2.new ((w.alloc (.cells #[.int .i64 x, .int .i64 y] 23)).alloc (.cells #[.int .i64 0, .int .i64 0] 23)) (.int .i64 x) (.int .i64 y) 23
  rw [World.size_alloc] at hR
  rw [World.size_alloc, World.size_alloc] at hT
  have B0 := grew3 w (.cells #[.int .i64 x, .int .i64 y] 23) (.cells #[.int .i64 0, .int .i64 0] 23) (.cells #[.int .i64 x, .int .i64 y] 23)
  go_enter Try.func35, Try.ntmps35
  go_wp2_with fail
  generalize ((w.alloc (.cells #[.int .i64 x, .int .i64 y] 23)).alloc (.cells #[.int .i64 0, .int .i64 0] 23)).alloc (.cells #[.int .i64 x, .int .i64 y] 23) = W at *
  go_loopw [14] (fun i wr => ∃ k : Nat, k ≤ gs.length ∧ i = .int .i64 k ∧ Below w.heap.size w wr ∧ At2 wr (w.heap.size + 1) (.int .i64 0) (.int .i64 0) ∧ At2 wr (w.heap.size + 1 + 1) (.int .i64 (lowLo (gs.take k) x)) (.int .i64 (topHi (gs.take k) y)) ∧ Hid (∀ j (hj : j < gs.length), j < k → gs[j].1 ≤ gs[j].2)) (fun i _ => gs.length - (intOf i).toNat)
  case atStart => exact ⟨0, Nat.zero_le _, rfl, B0, hR, by rw [HA0.out.1, HA0.out.2]; exact hT, Lib.hid fun j _ hj => absurd hj (by omega)⟩
  case round =>
    obtain ⟨k, hk, rfl, hB, hR, hT, hall⟩ := hrel
    by_cases hlt : k < gs.length
    · obtain ⟨ad, rfl, hb, hcell⟩ := HR.out (by omega)
      rename_i wr _ _
      have c1 : _ = _ := (hB.cell (by rw [block_of_add]; exact hb)).trans (hcell k hlt).1
      have c2 : _ = _ := (hB.cell (by rw [block_of_add]; exact hb)).trans (hcell k hlt).2
      rw [add_succ] at c2
      have HN : Hid (gs[k].2 < gs[k].1 → allRight gs = false) := Lib.hid (allRight_not hlt)
      have CR := Lib.hid (gRight_any gs[k].1 gs[k].2)
      have CF := Lib.hid (gHull1_any (lowLo (gs.take k) x) (topHi (gs.take k) y) gs[k].1 gs[k].2)
      have N1 := Lib.hid (lowLo_next hlt x)
      have N2 := Lib.hid (topHi_next hlt y)
      have hall' : Hid (gs[k].1 ≤ gs[k].2 → ∀ j (hj : j < gs.length), j < k + 1 → gs[j].1 ≤ gs[j].2) := Lib.hid fun hle j hj hjk => by
        by_cases e : j = k
        · subst e; exact hle
        · exact hall.out j hj (by omega)
      clear hcell hb hall
      generalize gs[k].1 = a at *
      generalize gs[k].2 = b at *
      generalize lowLo (gs.take k) x = p at *
      generalize topHi (gs.take k) y = q at *
      replace hR := hR.alloc (.cells #[.int .i64 a, .int .i64 b] 23)
      replace hT := hT.alloc (.cells #[.int .i64 a, .int .i64 b] 23)
      have hG := At2.new wr (.int .i64 a) (.int .i64 b) 23
      replace hB := ext_alloc hB (.cells #[.int .i64 a, .int .i64 b] 23)
      by_cases hr : b < a
      · have HE := Lib.hid (HN.out hr)
        have HS : Hid (combI gs (lowLo gs x) (topHi gs y) = (0, 0, 10)) := Lib.hid (if_pos HE.out)
        have e1 : decide (a ≤ b) = false := decide_eq_false (by omega)
        rw [e1] at CR
        clear hr e1
        go_wp2_with fail
        refine (CR.out _).mono ?_; rintro e w1 ⟨rfl, h1⟩
        have HB := Lib.hid (ext_step hB h1)
        obtain ⟨r0, r1, r2, r3⟩ := hR.below h1
        clear c1 c2 hR hT hG hB h1
        go_wp2_with fail
        exact bodyPost_ret (v := .tuple #[.agg #[.int .i64 (0), .int .i64 (0)], .int .i64 10]) (by simp [results, Try.results35, go_sem, r0, r1]) rfl ⟨by rw [HS.out]; rfl, ext_put (ext_put HB.out (Nat.le_succ _) _) (Nat.le_succ _) _⟩
      · have e1 : decide (a ≤ b) = true := decide_eq_true (by omega)
        replace hall' := Lib.hid (hall'.out (by omega))
        rw [e1] at CR
        clear hr e1 HN
        go_wp2_with fail
        refine (CR.out _).mono ?_; rintro e w1 ⟨rfl, h1⟩
        clear c1 c2
        replace hR := hR.below h1
        replace hT := hT.below h1
        replace hG := hG.below h1
        replace hB := ext_step hB h1
        clear h1
        generalize wr.heap.size = gG at *
        obtain ⟨t0, t1, -, -⟩ := id hT
        obtain ⟨g0, g1, -, -⟩ := id hG
        go_wp2_with fail
        refine (CF.out _).mono ?_; rintro e w2 ⟨rfl, h2⟩
        clear t0 t1 g0 g1
        replace hR := hR.below h2
        replace hT := hT.below h2
        replace hB := ext_step hB h2
        obtain ⟨t0, t1, t2, t3⟩ := id hT
        clear h2
        go_wp2_with fail
        go_roundw
        case rel =>
          refine ⟨k + 1, hlt, by go_num, ext_put (ext_put hB (by show w.heap.size ≤ w.heap.size + 1 + 1; omega) _) (by show w.heap.size ≤ w.heap.size + 1 + 1; omega) _, (hR.other (by omega) 0 _).other (by omega) 1 _, ?_, hall'⟩
          rw [N1.out, N2.out]
          exact (hT.set0 _).set1 _
        case measure => simp [intOf]; omega
    · obtain rfl : k = gs.length := by omega
      rw [List.take_length] at hT
      have har : allRight gs = true := allRight_of fun j hj => hall.out j hj hj
      have HS : Hid (combI gs (lowLo gs x) (topHi gs y) = neI (lowLo gs x) (topHi gs y)) := Lib.hid (if_neg (by rw [har]; decide))
      have CE := Lib.hid (gNonEmpty_any (lowLo gs x) (topHi gs y))
      clear har hall
      unfold GapE at CE
      generalize neI (lowLo gs x) (topHi gs y) = r at HS CE
      obtain ⟨p, q, k⟩ := r
      dsimp only at CE
      obtain ⟨t0, t1, -, -⟩ := id hT
      go_wp2_with fail
      refine (CE.out _).mono ?_; rintro e w2 ⟨rfl, h2⟩
      have HB := Lib.hid (ext_step hB h2)
      obtain ⟨r0, r1, r2, r3⟩ := hR.below h2
      clear t0 t1 hR hT
      go_wp2_with fail
      exact bodyPost_ret (v := .tuple #[.agg #[.int .i64 p, .int .i64 q], .int .i64 k]) (by simp [results, Try.results35, go_sem, r0, r1]) rfl ⟨by rw [HS.out]; rfl, ext_put (ext_put HB.out (Nat.le_succ _) _) (Nat.le_succ _) _⟩


set_option maxRecDepth 100000 in
set_option maxHeartbeats 2000000 in
theorem gMeet_any (v : Value) (gs : List (Int × Int)) (w : World) (hv : Gaps w w.heap.size v gs) (hn : gs.length ≤ 1000000) :
    Calls Try.prog 20 #[v] w fun e w' => GapE (meetI gs) e ∧ Below w.heap.size w w' := by
  have CC := Lib.hid fun W (h : Gaps W W.heap.size v gs) => combMeet_any v gs (-9223372036854775808) (9223372036854775807) W h hn
  have HS : Hid (combI gs (topLo gs (-9223372036854775808)) (lowHi gs (9223372036854775807)) = meetI gs) := Lib.hid (rfl)
  have hR := (At2.new w (.int .i64 0) (.int .i64 0) 23).alloc (.cells #[.int .i64 (-9223372036854775808), .int .i64 (9223372036854775807)] 23)
  have B0 := grew2 w (.cells #[.int .i64 0, .int .i64 0] 23) (.cells #[.int .i64 (-9223372036854775808), .int .i64 (9223372036854775807)] 23)
  have hv1 := (hv.below B0).more B0.size
  rw [HS.out] at CC
  unfold GapE at CC
  clear hv HS hn
  generalize meetI gs = r at *
  obtain ⟨p, q, k⟩ := r
  dsimp only at CC
  obtain ⟨A, c, rfl⟩ := hv1.len
  go_enter Try.func20, Try.ntmps20
  go_wp2_with fail
  refine (CC.out _ hv1).mono ?_; rintro e w1 ⟨rfl, h1⟩
  have HB1 := Lib.hid (ext_step B0 h1)
  obtain ⟨r0, r1, r2, r3⟩ := hR.below h1
  go_wp2_with fail
  exact bodyPost_ret (v := .tuple #[.agg #[.int .i64 p, .int .i64 q], .int .i64 k]) (by simp [results, Try.results20, go_sem, r0, r1]) rfl ⟨rfl, ext_put (ext_put HB1.out (Nat.le_refl _) _) (Nat.le_refl _) _⟩

theorem comb_hull {gs : List (Int × Int)} (hf : ∀ g ∈ gs, Fits g.1 ∧ Fits g.2) : combI gs (lowLo gs 9223372036854775807) (topHi gs (-9223372036854775808)) = hullI gs := by
  unfold combI hullI
  by_cases h : allRight gs = false
  · rw [if_pos h, if_pos h]
  rw [if_neg h, if_neg h]
  cases gs with
  | nil => rfl
  | cons g t =>
    obtain ⟨⟨f1, f2⟩, f3, f4⟩ := hf g (List.mem_cons_self ..)
    have hr : g.1 ≤ g.2 := by
      have : allRight (g :: t) = true := by simpa using h
      unfold allRight at this
      rw [List.all_cons, Bool.and_eq_true] at this
      exact of_decide_eq_true this.1
    have e1 : lowLo (g :: t) 9223372036854775807 = lowLo t g.1 := by
      unfold lowLo; rw [List.foldl_cons, show min 9223372036854775807 g.1 = g.1 by omega]
    have e2 : topHi (g :: t) (-9223372036854775808) = topHi t g.2 := by
      unfold topHi; rw [List.foldl_cons, show max (-9223372036854775808) g.2 = g.2 by omega]
    rw [e1, e2]
    have l1 : ∀ (l : List (Int × Int)) (x : Int), lowLo l x ≤ x := by
      intro l
      induction l with
      | nil => intro x; exact Int.le_refl _
      | cons u s ih => intro x; exact Int.le_trans (ih _) (Int.min_le_left _ _)
    have l2 : ∀ (l : List (Int × Int)) (x : Int), x ≤ topHi l x := by
      intro l
      induction l with
      | nil => intro x; exact Int.le_refl _
      | cons u s ih => intro x; exact Int.le_trans (Int.le_max_left _ _) (ih _)
    have := l1 t g.1
    have := l2 t g.2
    exact if_neg (by omega)

set_option maxRecDepth 100000 in
set_option maxHeartbeats 2000000 in
theorem gHull_any (v : Value) (gs : List (Int × Int)) (w : World) (hv : Gaps w w.heap.size v gs) (hf : ∀ g ∈ gs, Fits g.1 ∧ Fits g.2) (hn : gs.length ≤ 1000000) :
    Calls Try.prog 21 #[v] w fun e w' => GapE (hullI gs) e ∧ Below w.heap.size w w' := by
  have CC := Lib.hid fun W (h : Gaps W W.heap.size v gs) => combHull_any v gs (9223372036854775807) (-9223372036854775808) W h hn
  have HS : Hid (combI gs (lowLo gs (9223372036854775807)) (topHi gs (-9223372036854775808)) = hullI gs) := Lib.hid (comb_hull hf)
  have hR := (At2.new w (.int .i64 0) (.int .i64 0) 23).alloc (.cells #[.int .i64 (9223372036854775807), .int .i64 (-9223372036854775808)] 23)
  have B0 := grew2 w (.cells #[.int .i64 0, .int .i64 0] 23) (.cells #[.int .i64 (9223372036854775807), .int .i64 (-9223372036854775808)] 23)
  have hv1 := (hv.below B0).more B0.size
  rw [HS.out] at CC
  unfold GapE at CC
  clear hv HS hn hf
  generalize hullI gs = r at *
  obtain ⟨p, q, k⟩ := r
  dsimp only at CC
  obtain ⟨A, c, rfl⟩ := hv1.len
  go_enter Try.func21, Try.ntmps21
  go_wp2_with fail
  refine (CC.out _ hv1).mono ?_; rintro e w1 ⟨rfl, h1⟩
  have HB1 := Lib.hid (ext_step B0 h1)
  obtain ⟨r0, r1, r2, r3⟩ := hR.below h1
  go_wp2_with fail
  exact bodyPost_ret (v := .tuple #[.agg #[.int .i64 p, .int .i64 q], .int .i64 k]) (by simp [results, Try.results21, go_sem, r0, r1]) rfl ⟨rfl, ext_put (ext_put HB1.out (Nat.le_refl _) _) (Nat.le_refl _) _⟩
end Go.Proofs.Ythkeofpmappdhaa
