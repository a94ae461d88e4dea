/- Law 8's LabelMakes, walked. -/
import Derived.Test.YteiilmnehdbdiaaGreatDoorLabLawB
import Derived.Test.YteiilmnehdbdiaaGreatDoorLabK
import Derived.Test.YteiilmnehdbdiaaGreatDoorLabY
import Derived.Test.YteiilmnehdbdiaaGreatDoorLabG
import Derived.Test.YteiilmnehdbdiaaGreatDoorSameBytes
import Derived.Laws.StructEq
import Derived.Deep.CutBlock
import Derived.Deep.DeepCutAuto
namespace Go.Proofs.YteiilmnehdbdiaaGreatDoor
open Go.RowKit
variable {Rd : World → Nat → Nat → Nat → List Int → Int → Prop}

set_option maxRecDepth 100000 in
theorem labelS_info : (Tryz.prog.info? 45).map (fun i => (i.zero, i.size, i.bytes)) = some (some (.agg #[.string ByteArray.empty, .string ByteArray.empty]), 2, 32) := by kernel_rfl
set_option maxRecDepth 100000 in
theorem field_labs (s : ByteArray) (A : Option Addr) (m c : Nat) (w : World) : (Instr.field 32 (.agg #[.string s, .slice A m c]) 1).run Tryz.prog w = .ok (.slice A m c) w := by rfl
set_option maxRecDepth 100000 in
theorem label_neq (a b : ByteArray) (w : World) : (binOp .neq 45 (.agg #[.string a, .string b]) (.agg #[.string a, .string b])).run Tryz.prog w = .ok (.bool false) w := by
  rw [run_neq_struct, run_equalIn_agg _ _ _ _ _ (by kernel_rfl) (by kernel_rfl)]
  simp [go_sem]
/-- What a series that isn't great may be. -/
theorem great_sz {n : ByteArray} {x : List Lab} (h : ¬ GreatS n x) : n.size ≤ 300 ∧ x.length ≤ 100 ∧ ∀ l ∈ x, l.1.size ≤ 300 ∧ l.2.size ≤ 300 := by
  refine ⟨?_, ?_, fun l hl => ⟨?_, ?_⟩⟩
  · exact Nat.le_of_not_lt fun k => h (Or.inr (Or.inl k))
  · exact Nat.le_of_not_lt fun k => h (Or.inl k)
  · exact Nat.le_of_not_lt fun k => h (Or.inr (Or.inr ⟨l, hl, Or.inl k⟩))
  · exact Nat.le_of_not_lt fun k => h (Or.inr (Or.inr ⟨l, hl, Or.inr k⟩))
theorem makeE_sz {n : ByteArray} {x : List Lab} : (makeE n x).1.size ≤ 1000000 ∧ (makeE n x).2.1.length ≤ 1000000 ∧ ∀ l ∈ (makeE n x).2.1, l.1.size ≤ 1000000 ∧ l.2.size ≤ 1000000 := by
  by_cases h : (makeE n x).2.2 = 0
  · exact right_sz (makeE_right h).1
  · have e : (makeE n x).1 = ByteArray.empty ∧ (makeE n x).2.1 = [] := by
      unfold makeE at h ⊢
      split
      · exact ⟨rfl, rfl⟩
      · split
        · exact ⟨rfl, rfl⟩
        · split
          · exact ⟨rfl, rfl⟩
          · rename_i h1 h2 h3
            rw [if_neg h1, if_neg h2, if_neg h3] at h
            cases e : makeL [] x with
            | none => exact ⟨rfl, rfl⟩
            | some r => rw [e] at h; exact absurd rfl h
    rw [e.1, e.2]
    exact ⟨by decide, by decide, by simp⟩
theorem getL_at {ls : List Lab} {s : ByteArray} {k : Nat} (hk : k < ls.length) (hb : ∀ j (h : j < ls.length), j < k → ls[j].1 ≠ s) (he : ls[k].1 = s) : getL ls s = some ls[k].2 := by
  unfold getL
  have : ls.find? (fun l => decide (l.1 = s)) = some ls[k] := by
    rw [List.find?_eq_some_iff_getElem]
    exact ⟨by simpa using he, k, hk, rfl, fun j hj => by simpa using hb j (by omega) hj⟩
  rw [this]; rfl

set_option maxRecDepth 100000 in
set_option maxHeartbeats 8000000 in
theorem labelMakes_any (G : LabC Rd) (R : RdC Rd) (n : ByteArray) (u : Value) (x : List Lab) (nm : ByteArray) (w : World) (L0 : Labs w w.heap.size u x) :
    Calls Tryz.prog 3 #[.agg #[.string n, u], .string nm] w fun e w' => e = .returned (.bool true) ∧ Below w.heap.size w w' := by
  obtain ⟨i0, hi, hz0, hz1, hz2⟩ := info_parts labelS_info
  obtain ⟨A0, c0, rfl⟩ := L0.len
  have hW := grew1 w (.cells #[.string n, .slice A0 x.length c0] 24)
  have aS := At2.new w (.string n) (.slice A0 x.length c0) 24
  have CA := Lib.hid fun W => alive8_any G R W
  have CG := Lib.hid fun W h => great8_any n (.slice A0 x.length c0) x W h
  have HX := Lib.hid L0
  clear L0
  go_enter Tryz.func3, Tryz.ntmps3
  go_wp2_with fail
  refine (CA.out _).mono ?_; rintro e w1 ⟨rfl, b1⟩
  have a1 := aS.below b1
  have B1 := ext_step hW b1
  clear aS hW b1
  obtain ⟨s0, s1, -, -⟩ := id a1
  go_wp2_with fail
  refine (CG.out _ ((HX.out.below B1).more B1.size)).mono ?_; rintro e2 w2 ⟨rfl, b2⟩
  have a2 := a1.below b2
  have B2 := ext_step B1 b2
  clear a1 B1 b2 s0 s1
  by_cases hg : GreatS n x
  · rw [decide_eq_true hg]
    go_wp2_with fail
    go_ret
    exact ⟨rfl, B2⟩
  rw [decide_eq_false hg]
  obtain ⟨g1, g2, g3⟩ := great_sz hg
  have HG3 := Lib.hid g3
  clear hg g3
  by_cases hn3 : 300 < nm.size
  · have i1 : (300 : Int) < (nm.size : Int) := by omega
    go_wp2_with fail
    go_ret
    exact ⟨rfl, B2⟩
  have i1 : ¬ (300 : Int) < (nm.size : Int) := by omega
  have hl : x.length ≤ maxLen := by unfold maxLen; omega
  obtain ⟨s0, s1, -, -⟩ := id (a2.alloc (.cells #[] 45))
  have HSrc : Hid (SrcV (w2.alloc (.cells #[] 45)) A0 x.length (cellsB x)) := Lib.hid ((HX.out.below (ext_alloc B2 _)).src fun _ _ => rfl)
  go_wp2_with (at_builtin; go_must (refine wpList_append_cells _ rfl (.tmp 23) (.tmp 25) 22 rfl w2.heap.size 45 i0 (.agg #[.string ByteArray.empty, .string ByteArray.empty]) 2 32 Tryz.underlying22 hi hz0 hz1 hz2 rfl (by decide) _ 0 [] rfl (OwnB.empty _ w2) A0 x.length c0 (cellsB x) rfl (cellsB_length x) HSrc.out (cellsB_one x) (by omega) (by omega) (by simp) ?_); intro v3 w3 hown3 hgrow3; obtain ⟨L3, b3⟩ := own_labs (w := w2) rfl (Below.refl _ _) hown3 hgrow3; obtain ⟨A3, c3, rfl⟩ := L3.len; have a3 := a2.below b3; have B3 := ext_step B2 b3; clear hown3 hgrow3 a2 B2 b3 s0 s1 HSrc; obtain ⟨s0, s1, -, -⟩ := id a3)
  have CM := Lib.hid (G.make n (.slice A3 x.length c3) x w3 ⟨L3, by omega, by omega, fun l h => by have := HG3.out l h; omega⟩)
  have HSZ := Lib.hid (makeE_sz (n := n) (x := x))
  have hq0 : Hid (makeE n x = makeE n x) := Lib.hid rfl
  generalize hQ : makeE n x = q at *
  have HQ := Lib.hid hQ
  clear hQ hq0
  obtain ⟨qn, ql, qe⟩ := q
  have HSZ : Hid (qn.size ≤ 1000000 ∧ ql.length ≤ 1000000 ∧ ∀ l ∈ ql, l.1.size ≤ 1000000 ∧ l.2.size ≤ 1000000) := HSZ
  go_wp2_with fail
  refine (CM.out).mono ?_; rintro e4 w4 ⟨v4, rfl, L4, b4, -⟩
  obtain ⟨A4, c4, rfl⟩ := L4.len
  have a4 := a3.below b4
  have B4 := ext_step B3 b4
  have O4 := (L3.below b4).more b4.size
  have m4 := At2.new w4 (.string qn) (.slice A4 ql.length c4) 24
  have k4 := grew1 w4 (.cells #[.string qn, .slice A4 ql.length c4] 24)
  have a5 := a4.alloc (.cells #[.string qn, .slice A4 ql.length c4] 24)
  have L5 := (L4.below k4).more k4.size
  have O5 := (O4.below k4).more k4.size
  have B5 := ext_step B4 k4
  clear a3 B3 b4 a4 B4 L4 O4 k4 s0 s1 L3 CM
  go_wp2_with fail
  generalize hmb : w4.heap.size = mb at *
  clear hmb
  change Code.wp _ _ _ _ (w4.alloc (.cells #[.string qn, .slice A4 ql.length c4] 24))
  generalize w4.alloc (.cells #[.string qn, .slice A4 ql.length c4] 24) = w5 at *
  go_cut [8, 9] (fun d f wx => ∃ gn A9 c9, d = .pointer (some ⟨gn, 0, none⟩) ∧ f = .int .i64 qe ∧ At2 wx gn (.string qn) (.slice A9 ql.length c9) ∧ Labs wx wx.heap.size (.slice A9 ql.length c9) ql ∧ Below w5.heap.size w5 wx)
  case first =>
    have hwl := a5.lt
    have a6 := a5.drew
    have B6 := ext_drew B5
    have K6 : Below w5.heap.size w5 w5.drew := (Below.refl _ _).drew
    refine wp_region_held_drew (S := fun w' => w'.cell? ⟨w.heap.size, 0, none⟩ = some (.string n) ∧ w'.cell? ⟨w.heap.size, 1, none⟩ = some (.slice A0 x.length c0)) (by kernel_rfl) ?_ (fun hHeld => ?_)
    · exact ⟨a6.c0, a6.c1⟩
    clear a5 B5
    generalize w5.drew = w6 at *
    refine take_at (i := 0) (d := some 35) (v := ?_) rfl rfl (by kernel_rfl) (by kernel_rfl) (by kernel_rfl) (fun _ _ _ h => h) (Or.inl ⟨by rfl, ?hyd1⟩) (by assumption) ?restd1
    case hyd1 => (intro w hSw; (try dsimp only at hSw); go_simp; try with_reducible rfl)
    (try simp only [Act.put]); (try simp only [List.setIfInBounds_toArray]); (try simp only [List.set_cons_succ]); (try simp only [List.set_cons_zero])
    refine take_at (i := 1) (d := some 36) (v := ?_) rfl rfl (by kernel_rfl) (by kernel_rfl) (by kernel_rfl) (fun _ _ _ h => h) (Or.inl ⟨by rfl, ?hyd2⟩) (by assumption) ?restd2
    case hyd2 => (intro w hSw; (try dsimp only at hSw); go_simp; try with_reducible rfl)
    (try simp only [Act.put]); (try simp only [List.setIfInBounds_toArray]); (try simp only [List.set_cons_succ]); (try simp only [List.set_cons_zero])
    refine take_at (i := 2) (d := some 37) (v := ?_) rfl rfl (by kernel_rfl) (by kernel_rfl) (by kernel_rfl) (fun _ _ _ h => h) (Or.inl ⟨by rfl, ?hyd3⟩) (by assumption) ?restd3
    case hyd3 => (intro w hSw; (try dsimp only at hSw); go_simp; try with_reducible rfl)
    (try simp only [Act.put]); (try simp only [List.setIfInBounds_toArray]); (try simp only [List.set_cons_succ]); (try simp only [List.set_cons_zero])
    refine wpAnyH_ready (rs := [3, 9]) (by kernel_rfl) (by simp) ?_
    refine AllReadyH.cons rfl (fun K hK => ?_) (AllReadyH.cons rfl (fun K hK => ?_) AllReadyH.nil)
    · go_simp
      refine (of8_any n _ x _ ((HX.out.below B6).more B6.size) (by omega)).mono ?_; rintro e8 w6o ⟨v8, rfl, hO8, b8⟩
      obtain ⟨A8, c8, rfl⟩ := hO8.val
      have a6o := a6.below b8
      have B6o := ext_step B6 b8
      have K6o := ext_step K6 b8
      have L8 := hO8.labs
      have hfl := fun W => field_labs n A8 x.length c8 W
      try go_wp2_with fail
      refine hK.out _ _ ?_ (fun hHeld => ?_)
      · exact ⟨a6o.c0, a6o.c1⟩
      clear hK K
      (try simp only [Act.put]); (try simp only [List.setIfInBounds_toArray]); (try simp only [List.set_cons_succ]); (try simp only [List.set_cons_zero])
      refine take_at (i := 4) (d := some 39) (v := ?_) rfl rfl (by kernel_rfl) (by kernel_rfl) (by kernel_rfl) (fun _ _ _ h => h) (Or.inl ⟨by rfl, ?hyd4⟩) (by assumption) ?restd4
      case hyd4 => (intro w hSw; (try dsimp only at hSw); go_simp; try with_reducible rfl)
      (try simp only [Act.put]); (try simp only [List.setIfInBounds_toArray]); (try simp only [List.set_cons_succ]); (try simp only [List.set_cons_zero])
      refine wpAnyH_ready (rs := [5, 9]) (by kernel_rfl) (by simp) ?_
      refine AllReadyH.cons rfl (fun K hK => ?_) (AllReadyH.cons rfl (fun K hK => ?_) AllReadyH.nil)
      · go_simp
        refine (rMake8_any n _ x _ L8 (by omega) (fun l h => by have := HG3.out l h; omega)).mono ?_; rw [HQ.out]; rintro e9 w6om ⟨v9, rfl, hO9, b9⟩
        obtain ⟨A9, c9, rfl⟩ := hO9.val
        have a6om := a6o.below b9
        have B6om := ext_step B6o b9
        have K6om := ext_step K6o b9
        clear hfl
        try go_wp2_with fail
        refine hK.out _ _ ?_ (fun hHeld => ?_)
        · exact ⟨a6om.c0, a6om.c1⟩
        clear hK K
        (try simp only [Act.put]); (try simp only [List.setIfInBounds_toArray]); (try simp only [List.set_cons_succ]); (try simp only [List.set_cons_zero])
        refine take_at (i := 6) (d := some 34) (v := ?_) rfl rfl (by kernel_rfl) (by kernel_rfl) (by kernel_rfl) (fun _ _ _ h => h) (Or.inl ⟨by rfl, ?hyd5⟩) (by assumption) ?restd5
        case hyd5 => (intro w hSw; (try dsimp only at hSw); go_simp; try with_reducible rfl)
        (try simp only [Act.put]); (try simp only [List.setIfInBounds_toArray]); (try simp only [List.set_cons_succ]); (try simp only [List.set_cons_zero])
        refine take_at (i := 7) (d := some 41) (v := ?_) rfl rfl (by kernel_rfl) (by kernel_rfl) (by kernel_rfl) (fun _ _ _ h => h) (Or.inl ⟨by rfl, ?hyd6⟩) (by assumption) ?restd6
        case hyd6 => (intro w hSw; (try dsimp only at hSw); go_simp; try with_reducible rfl)
        (try simp only [Act.put]); (try simp only [List.setIfInBounds_toArray]); (try simp only [List.set_cons_succ]); (try simp only [List.set_cons_zero])
        refine take_at (i := 8) (d := some 42) (v := ?_) rfl rfl (by kernel_rfl) (by kernel_rfl) (by kernel_rfl) (fun _ _ _ h => h) (Or.inl ⟨by rfl, ?hyd7⟩) (by assumption) ?restd7
        case hyd7 => (intro w hSw; (try dsimp only at hSw); go_simp; try with_reducible rfl)
        (try simp only [Act.put]); (try simp only [List.setIfInBounds_toArray]); (try simp only [List.set_cons_succ]); (try simp only [List.set_cons_zero])
        refine wpAnyH_ready (rs := [9]) (by kernel_rfl) (by simp) ?_
        refine AllReadyH.cons rfl (fun K hK => ?_) AllReadyH.nil
        have z9 := At2.new w6om (.string ByteArray.empty) (.slice none 0 0) 32
        have kz := grew1 w6om (.cells #[.string ByteArray.empty, .slice none 0 0] 32)
        have a6omz := a6om.alloc (.cells #[.string ByteArray.empty, .slice none 0 0] 32)
        have B6omz := ext_step B6om kz
        have K6omz := ext_step K6om kz
        have L9 := hO9.labs.below kz
        have hgl := K6om.size
        go_simp
        change K _ (w6om.alloc (.cells #[.string ByteArray.empty, .slice none 0 0] 32))
        generalize hgn : w6om.heap.size = gn at *
        generalize w6om.alloc (.cells #[.string ByteArray.empty, .slice none 0 0] 32) = w6omz at *
        clear hgn kz
        refine hK.out _ _ ?_ (fun hHeld => ?_)
        · exact ⟨a6omz.c0, a6omz.c1⟩
        clear hK K
        (try simp only [Act.put]); (try simp only [List.setIfInBounds_toArray]); (try simp only [List.set_cons_succ]); (try simp only [List.set_cons_zero])
        refine wpAnyH_ready (rs := [10]) (by kernel_rfl) (by simp) ?_
        refine AllReadyH.cons rfl (fun K hK => ?_) AllReadyH.nil
        have aE := (a6omz.other (b' := gn) (by omega) 0 (.string qn)).other (b' := gn) (by omega) 1 (.slice A9 ql.length c9)
        have zE := (z9.set0 (.string qn)).set1 (.slice A9 ql.length c9)
        have LE := ((L9.below ((Below.refl gn _).setCell (p := ⟨gn, 0, none⟩) (Nat.le_refl _) (.string qn))).below ((Below.refl gn _).setCell (p := ⟨gn, 1, none⟩) (Nat.le_refl _) (.slice A9 ql.length c9))).more (show gn ≤ ((w6omz.setCell ⟨gn, 0, none⟩ (.string qn)).setCell ⟨gn, 1, none⟩ (.slice A9 ql.length c9)).heap.size by have := z9.lt; simp; omega)
        have KE := (K6omz.setCell (p := ⟨gn, 0, none⟩) hgl (.string qn)).setCell (p := ⟨gn, 1, none⟩) hgl (.slice A9 ql.length c9)
        obtain ⟨y0, y1, y2, y3⟩ := id z9
        go_simp
        clear y0 y1 y2 y3
        refine hK.out _ _ ?_ (fun hHeld => ?_)
        · exact ⟨aE.c0, aE.c1⟩
        clear hK K
        (try simp only [Act.put]); (try simp only [List.setIfInBounds_toArray]); (try simp only [List.set_cons_succ]); (try simp only [List.set_cons_zero])
        refine take_at (i := 11) (d := some 9) (v := ?_) rfl rfl (by kernel_rfl) (by kernel_rfl) (by kernel_rfl) (fun _ _ _ h => h) (Or.inl ⟨by rfl, ?hyd8⟩) (by assumption) ?restd8
        case hyd8 => (intro w hSw; (try dsimp only at hSw); go_simp; try with_reducible rfl)
        (try simp only [Act.put]); (try simp only [List.setIfInBounds_toArray]); (try simp only [List.set_cons_succ]); (try simp only [List.set_cons_zero])
        refine wpAnyH_done (by kernel_rfl) ?_ _
        go_wp2_with fail
        go_meet
        exact ⟨gn, A9, c9, rfl, rfl, zE, LE, KE⟩
      · have z9 := At2.new w6o (.string ByteArray.empty) (.slice none 0 0) 32
        have kz := grew1 w6o (.cells #[.string ByteArray.empty, .slice none 0 0] 32)
        have a6oz := a6o.alloc (.cells #[.string ByteArray.empty, .slice none 0 0] 32)
        have B6oz := ext_step B6o kz
        have K6oz := ext_step K6o kz
        have L8 := (L8.below kz).more kz.size
        have hgl := K6o.size
        go_simp
        change K _ (w6o.alloc (.cells #[.string ByteArray.empty, .slice none 0 0] 32))
        generalize hgn : w6o.heap.size = gn at *
        generalize w6o.alloc (.cells #[.string ByteArray.empty, .slice none 0 0] 32) = w6oz at *
        clear hgn kz
        refine hK.out _ _ ?_ (fun hHeld => ?_)
        · exact ⟨a6oz.c0, a6oz.c1⟩
        clear hK K
        (try simp only [Act.put]); (try simp only [List.setIfInBounds_toArray]); (try simp only [List.set_cons_succ]); (try simp only [List.set_cons_zero])
        refine wpAnyH_ready (rs := [5]) (by kernel_rfl) (by simp) ?_
        refine AllReadyH.cons rfl (fun K hK => ?_) AllReadyH.nil
        go_simp
        refine (rMake8_any n _ x _ L8 (by omega) (fun l h => by have := HG3.out l h; omega)).mono ?_; rw [HQ.out]; rintro e9 w6ozm ⟨v9, rfl, hO9, b9⟩
        obtain ⟨A9, c9, rfl⟩ := hO9.val
        have a6ozm := a6oz.below b9
        have B6ozm := ext_step B6oz b9
        have K6ozm := ext_step K6oz b9
        clear hfl
        have hz5 := z9.lt
        have z9 := z9.below b9
        try go_wp2_with fail
        refine hK.out _ _ ?_ (fun hHeld => ?_)
        · exact ⟨a6ozm.c0, a6ozm.c1⟩
        clear hK K
        (try simp only [Act.put]); (try simp only [List.setIfInBounds_toArray]); (try simp only [List.set_cons_succ]); (try simp only [List.set_cons_zero])
        refine take_at (i := 6) (d := some 34) (v := ?_) rfl rfl (by kernel_rfl) (by kernel_rfl) (by kernel_rfl) (fun _ _ _ h => h) (Or.inl ⟨by rfl, ?hyd9⟩) (by assumption) ?restd9
        case hyd9 => (intro w hSw; (try dsimp only at hSw); go_simp; try with_reducible rfl)
        (try simp only [Act.put]); (try simp only [List.setIfInBounds_toArray]); (try simp only [List.set_cons_succ]); (try simp only [List.set_cons_zero])
        refine take_at (i := 7) (d := some 41) (v := ?_) rfl rfl (by kernel_rfl) (by kernel_rfl) (by kernel_rfl) (fun _ _ _ h => h) (Or.inl ⟨by rfl, ?hyd10⟩) (by assumption) ?restd10
        case hyd10 => (intro w hSw; (try dsimp only at hSw); go_simp; try with_reducible rfl)
        (try simp only [Act.put]); (try simp only [List.setIfInBounds_toArray]); (try simp only [List.set_cons_succ]); (try simp only [List.set_cons_zero])
        refine take_at (i := 8) (d := some 42) (v := ?_) rfl rfl (by kernel_rfl) (by kernel_rfl) (by kernel_rfl) (fun _ _ _ h => h) (Or.inl ⟨by rfl, ?hyd11⟩) (by assumption) ?restd11
        case hyd11 => (intro w hSw; (try dsimp only at hSw); go_simp; try with_reducible rfl)
        (try simp only [Act.put]); (try simp only [List.setIfInBounds_toArray]); (try simp only [List.set_cons_succ]); (try simp only [List.set_cons_zero])
        refine wpAnyH_ready (rs := [10]) (by kernel_rfl) (by simp) ?_
        refine AllReadyH.cons rfl (fun K hK => ?_) AllReadyH.nil
        have aE := (a6ozm.other (b' := gn) (by omega) 0 (.string qn)).other (b' := gn) (by omega) 1 (.slice A9 ql.length c9)
        have zE := (z9.set0 (.string qn)).set1 (.slice A9 ql.length c9)
        have LE := ((hO9.away (p := ⟨gn, 0, none⟩) (by dsimp only; omega) (.string qn)).away (p := ⟨gn, 1, none⟩) (by dsimp only; omega) (.slice A9 ql.length c9)).labs
        have KE := (K6ozm.setCell (p := ⟨gn, 0, none⟩) hgl (.string qn)).setCell (p := ⟨gn, 1, none⟩) hgl (.slice A9 ql.length c9)
        obtain ⟨y0, y1, y2, y3⟩ := id z9
        go_simp
        clear y0 y1 y2 y3
        refine hK.out _ _ ?_ (fun hHeld => ?_)
        · exact ⟨aE.c0, aE.c1⟩
        clear hK K
        (try simp only [Act.put]); (try simp only [List.setIfInBounds_toArray]); (try simp only [List.set_cons_succ]); (try simp only [List.set_cons_zero])
        refine take_at (i := 11) (d := some 9) (v := ?_) rfl rfl (by kernel_rfl) (by kernel_rfl) (by kernel_rfl) (fun _ _ _ h => h) (Or.inl ⟨by rfl, ?hyd12⟩) (by assumption) ?restd12
        case hyd12 => (intro w hSw; (try dsimp only at hSw); go_simp; try with_reducible rfl)
        (try simp only [Act.put]); (try simp only [List.setIfInBounds_toArray]); (try simp only [List.set_cons_succ]); (try simp only [List.set_cons_zero])
        refine wpAnyH_done (by kernel_rfl) ?_ _
        go_wp2_with fail
        go_meet
        exact ⟨gn, A9, c9, rfl, rfl, zE, LE, KE⟩
    · have z9 := At2.new w6 (.string ByteArray.empty) (.slice none 0 0) 32
      have kz := grew1 w6 (.cells #[.string ByteArray.empty, .slice none 0 0] 32)
      have a6z := a6.alloc (.cells #[.string ByteArray.empty, .slice none 0 0] 32)
      have B6z := ext_step B6 kz
      have K6z := ext_step K6 kz
      have hgl := K6.size
      go_simp
      change K _ (w6.alloc (.cells #[.string ByteArray.empty, .slice none 0 0] 32))
      generalize hgn : w6.heap.size = gn at *
      generalize w6.alloc (.cells #[.string ByteArray.empty, .slice none 0 0] 32) = w6z at *
      clear hgn kz
      refine hK.out _ _ ?_ (fun hHeld => ?_)
      · exact ⟨a6z.c0, a6z.c1⟩
      clear hK K
      (try simp only [Act.put]); (try simp only [List.setIfInBounds_toArray]); (try simp only [List.set_cons_succ]); (try simp only [List.set_cons_zero])
      refine wpAnyH_ready (rs := [3]) (by kernel_rfl) (by simp) ?_
      refine AllReadyH.cons rfl (fun K hK => ?_) AllReadyH.nil
      go_simp
      refine (of8_any n _ x _ ((HX.out.below B6z).more B6z.size) (by omega)).mono ?_; rintro e8 w6zo ⟨v8, rfl, hO8, b8⟩
      obtain ⟨A8, c8, rfl⟩ := hO8.val
      have a6zo := a6z.below b8
      have B6zo := ext_step B6z b8
      have K6zo := ext_step K6z b8
      have L8 := hO8.labs
      have hfl := fun W => field_labs n A8 x.length c8 W
      have z9 := z9.below b8
      try go_wp2_with fail
      refine hK.out _ _ ?_ (fun hHeld => ?_)
      · exact ⟨a6zo.c0, a6zo.c1⟩
      clear hK K
      (try simp only [Act.put]); (try simp only [List.setIfInBounds_toArray]); (try simp only [List.set_cons_succ]); (try simp only [List.set_cons_zero])
      refine take_at (i := 4) (d := some 39) (v := ?_) rfl rfl (by kernel_rfl) (by kernel_rfl) (by kernel_rfl) (fun _ _ _ h => h) (Or.inl ⟨by rfl, ?hyd13⟩) (by assumption) ?restd13
      case hyd13 => (intro w hSw; (try dsimp only at hSw); go_simp; try with_reducible rfl)
      (try simp only [Act.put]); (try simp only [List.setIfInBounds_toArray]); (try simp only [List.set_cons_succ]); (try simp only [List.set_cons_zero])
      refine wpAnyH_ready (rs := [5]) (by kernel_rfl) (by simp) ?_
      refine AllReadyH.cons rfl (fun K hK => ?_) AllReadyH.nil
      go_simp
      refine (rMake8_any n _ x _ L8 (by omega) (fun l h => by have := HG3.out l h; omega)).mono ?_; rw [HQ.out]; rintro e9 w6zom ⟨v9, rfl, hO9, b9⟩
      obtain ⟨A9, c9, rfl⟩ := hO9.val
      have a6zom := a6zo.below b9
      have B6zom := ext_step B6zo b9
      have K6zom := ext_step K6zo b9
      clear hfl
      have hz5 := z9.lt
      have z9 := z9.below b9
      try go_wp2_with fail
      refine hK.out _ _ ?_ (fun hHeld => ?_)
      · exact ⟨a6zom.c0, a6zom.c1⟩
      clear hK K
      (try simp only [Act.put]); (try simp only [List.setIfInBounds_toArray]); (try simp only [List.set_cons_succ]); (try simp only [List.set_cons_zero])
      refine take_at (i := 6) (d := some 34) (v := ?_) rfl rfl (by kernel_rfl) (by kernel_rfl) (by kernel_rfl) (fun _ _ _ h => h) (Or.inl ⟨by rfl, ?hyd14⟩) (by assumption) ?restd14
      case hyd14 => (intro w hSw; (try dsimp only at hSw); go_simp; try with_reducible rfl)
      (try simp only [Act.put]); (try simp only [List.setIfInBounds_toArray]); (try simp only [List.set_cons_succ]); (try simp only [List.set_cons_zero])
      refine take_at (i := 7) (d := some 41) (v := ?_) rfl rfl (by kernel_rfl) (by kernel_rfl) (by kernel_rfl) (fun _ _ _ h => h) (Or.inl ⟨by rfl, ?hyd15⟩) (by assumption) ?restd15
      case hyd15 => (intro w hSw; (try dsimp only at hSw); go_simp; try with_reducible rfl)
      (try simp only [Act.put]); (try simp only [List.setIfInBounds_toArray]); (try simp only [List.set_cons_succ]); (try simp only [List.set_cons_zero])
      refine take_at (i := 8) (d := some 42) (v := ?_) rfl rfl (by kernel_rfl) (by kernel_rfl) (by kernel_rfl) (fun _ _ _ h => h) (Or.inl ⟨by rfl, ?hyd16⟩) (by assumption) ?restd16
      case hyd16 => (intro w hSw; (try dsimp only at hSw); go_simp; try with_reducible rfl)
      (try simp only [Act.put]); (try simp only [List.setIfInBounds_toArray]); (try simp only [List.set_cons_succ]); (try simp only [List.set_cons_zero])
      refine wpAnyH_ready (rs := [10]) (by kernel_rfl) (by simp) ?_
      refine AllReadyH.cons rfl (fun K hK => ?_) AllReadyH.nil
      have aE := (a6zom.other (b' := gn) (by omega) 0 (.string qn)).other (b' := gn) (by omega) 1 (.slice A9 ql.length c9)
      have zE := (z9.set0 (.string qn)).set1 (.slice A9 ql.length c9)
      have LE := ((hO9.away (p := ⟨gn, 0, none⟩) (by dsimp only; omega) (.string qn)).away (p := ⟨gn, 1, none⟩) (by dsimp only; omega) (.slice A9 ql.length c9)).labs
      have KE := (K6zom.setCell (p := ⟨gn, 0, none⟩) hgl (.string qn)).setCell (p := ⟨gn, 1, none⟩) hgl (.slice A9 ql.length c9)
      obtain ⟨y0, y1, y2, y3⟩ := id z9
      go_simp
      clear y0 y1 y2 y3
      refine hK.out _ _ ?_ (fun hHeld => ?_)
      · exact ⟨aE.c0, aE.c1⟩
      clear hK K
      (try simp only [Act.put]); (try simp only [List.setIfInBounds_toArray]); (try simp only [List.set_cons_succ]); (try simp only [List.set_cons_zero])
      refine take_at (i := 11) (d := some 9) (v := ?_) rfl rfl (by kernel_rfl) (by kernel_rfl) (by kernel_rfl) (fun _ _ _ h => h) (Or.inl ⟨by rfl, ?hyd17⟩) (by assumption) ?restd17
      case hyd17 => (intro w hSw; (try dsimp only at hSw); go_simp; try with_reducible rfl)
      (try simp only [Act.put]); (try simp only [List.setIfInBounds_toArray]); (try simp only [List.set_cons_succ]); (try simp only [List.set_cons_zero])
      refine wpAnyH_done (by kernel_rfl) ?_ _
      go_wp2_with fail
      go_meet
      exact ⟨gn, A9, c9, rfl, rfl, zE, LE, KE⟩
  case rest =>
    obtain ⟨gn, A9, c9, rfl, rfl, n9, L9, k9⟩ := hcut
    have a6 := a5.below k9
    have m6 := m4.below k9
    have O6 := (O5.below k9).more k9.size
    have L6 := (L5.below k9).more k9.size
    have B6 := ext_step B5 k9
    clear a5 m4 O5 L5 B5 k9
    have CR := Lib.hid fun W h => G.right n (.slice A0 x.length c0) x W ⟨h, by omega, by omega, fun l k => by have := HG3.out l k; omega⟩
    have CT := Lib.hid fun W h => G.text n (.slice A0 x.length c0) x W ⟨h, by omega, by omega, fun l k => by have := HG3.out l k; omega⟩
    have CB := Lib.hid fun W h => G.bytes n (.slice A0 x.length c0) x W ⟨h, by omega, by omega, fun l k => by have := HG3.out l k; omega⟩
    have DR := Lib.hid fun u W h => rRight8_any n u x W h (by omega) fun l k => by have := HG3.out l k; omega
    have DT := Lib.hid fun u W h => rText8_any n u x W h (by omega) fun l k => by have := HG3.out l k; omega
    have DB := Lib.hid fun u W h => rBytes8_any n u x W h (by omega) fun l k => by have := HG3.out l k; omega
    have HBL : Hid ((bytI n x).length ≤ 1000000) := Lib.hid (by
      unfold bytI
      split
      · rename_i hr
        unfold bytesL
        have h1 := txtL_len n (by omega)
        have h2 := leb_ten (n := x.length) (by omega)
        have h3 := labsL_len x fun l hl => ⟨(hr.2.2.1 l hl).1.2.1, (hr.2.2.1 l hl).2.1⟩
        rw [List.length_append, List.length_append]
        omega
      · exact Nat.zero_le _)
    have HBE : Hid (bytesI n x = bytI n x) := Lib.hid rfl
    rw [HBE.out] at DB
    generalize decide (IsRight n x) = rb at *
    generalize textS n x = tx at *
    generalize bytI n x = bb at *
    go_wp2_with fail
    have a7 := a6.drew
    have m7 := m6.drew
    have n7 := n9.drew
    have B7 := ext_drew B6
    have O7 := O6.drew_
    have L7 := L6.drew_
    have M7 := L9.drew_
    clear a6 m6 n9 B6 O6 L6 L9
    refine wp_region_held_drew (S := fun w' => w'.cell? ⟨w.heap.size, 0, none⟩ = some (.string n) ∧ w'.cell? ⟨w.heap.size, 1, none⟩ = some (.slice A0 x.length c0) ∧ w'.cell? ⟨mb, 0, none⟩ = some (.string qn) ∧ w'.cell? ⟨mb, 1, none⟩ = some (.slice A4 ql.length c4) ∧ w'.cell? ⟨gn, 0, none⟩ = some (.string qn) ∧ w'.cell? ⟨gn, 1, none⟩ = some (.slice A9 ql.length c9)) (by kernel_rfl) ?_ (fun hHeld => ?_)
    · exact ⟨a7.c0, a7.c1, m7.c0, m7.c1, n7.c0, n7.c1⟩
    refine take_at (i := 0) (d := some 43) (v := ?_) rfl rfl (by kernel_rfl) (by kernel_rfl) (by kernel_rfl) (fun _ _ _ h => h) (Or.inl ⟨by rfl, ?hye1⟩) (by assumption) ?reste1
    case hye1 => (intro w hSw; (try dsimp only at hSw); go_simp; try with_reducible rfl)
    (try simp only [Act.put]); (try simp only [List.setIfInBounds_toArray]); (try simp only [List.set_cons_succ]); (try simp only [List.set_cons_zero])
    refine take_at (i := 1) (d := some 44) (v := ?_) rfl rfl (by kernel_rfl) (by kernel_rfl) (by kernel_rfl) (fun _ _ _ h => h) (Or.inl ⟨by rfl, ?hye2⟩) (by assumption) ?reste2
    case hye2 => (intro w hSw; (try dsimp only at hSw); go_simp; try with_reducible rfl)
    (try simp only [Act.put]); (try simp only [List.setIfInBounds_toArray]); (try simp only [List.set_cons_succ]); (try simp only [List.set_cons_zero])
    refine take_at (i := 2) (d := some 45) (v := ?_) rfl rfl (by kernel_rfl) (by kernel_rfl) (by kernel_rfl) (fun _ _ _ h => h) (Or.inl ⟨by rfl, ?hye3⟩) (by assumption) ?reste3
    case hye3 => (intro w hSw; (try dsimp only at hSw); go_simp; try with_reducible rfl)
    (try simp only [Act.put]); (try simp only [List.setIfInBounds_toArray]); (try simp only [List.set_cons_succ]); (try simp only [List.set_cons_zero])
    refine take_at (i := 3) (d := some 46) (v := ?_) rfl rfl (by kernel_rfl) (by kernel_rfl) (by kernel_rfl) (fun _ _ _ h => h) (Or.inl ⟨by rfl, ?hye4⟩) (by assumption) ?reste4
    case hye4 => (intro w hSw; (try dsimp only at hSw); go_simp; try with_reducible rfl)
    (try simp only [Act.put]); (try simp only [List.setIfInBounds_toArray]); (try simp only [List.set_cons_succ]); (try simp only [List.set_cons_zero])
    refine take_at (i := 4) (d := some 47) (v := ?_) rfl rfl (by kernel_rfl) (by kernel_rfl) (by kernel_rfl) (fun _ _ _ h => h) (Or.inl ⟨by rfl, ?hye5⟩) (by assumption) ?reste5
    case hye5 => (intro w hSw; (try dsimp only at hSw); go_simp; try with_reducible rfl)
    (try simp only [Act.put]); (try simp only [List.setIfInBounds_toArray]); (try simp only [List.set_cons_succ]); (try simp only [List.set_cons_zero])
    refine take_at (i := 6) (d := some 49) (v := ?_) rfl rfl (by kernel_rfl) (by kernel_rfl) (by kernel_rfl) (fun _ _ _ h => h) (Or.inl ⟨by rfl, ?hye6⟩) (by assumption) ?reste6
    case hye6 => (intro w hSw; (try dsimp only at hSw); go_simp; try with_reducible rfl)
    (try simp only [Act.put]); (try simp only [List.setIfInBounds_toArray]); (try simp only [List.set_cons_succ]); (try simp only [List.set_cons_zero])
    refine wpAnyH_ready (rs := [5]) (by kernel_rfl) (by simp) ?_
    refine AllReadyH.cons rfl (fun K hK => ?_) AllReadyH.nil
    go_simp
    refine (of8_any qn _ ql _ L7 HSZ.out.2.1).mono ?_; rintro e8 w8 ⟨v8, rfl, hO8, b8⟩
    obtain ⟨A8, c8, rfl⟩ := hO8.val
    have a8 := a7.below b8
    have m8 := m7.below b8
    have n8 := n7.below b8
    have B8 := ext_step B7 b8
    have O8 := (O7.below b8).more b8.size
    have L8 := (L7.below b8).more b8.size
    have M8 := (M7.below b8).more b8.size
    have CS := Lib.hid (rSame8_any qn qn _ _ ql ql w8 hO8.labs M8 HSZ.out.2.1 HSZ.out.2.1)
    rw [decide_eq_true ⟨rfl, rfl⟩] at CS
    try go_wp2_with fail
    refine hK.out _ _ ?_ (fun hHeld => ?_)
    · exact ⟨a8.c0, a8.c1, m8.c0, m8.c1, n8.c0, n8.c1⟩
    clear hK K
    (try simp only [Act.put]); (try simp only [List.setIfInBounds_toArray]); (try simp only [List.set_cons_succ]); (try simp only [List.set_cons_zero])
    refine wpAnyH_ready (rs := [7]) (by kernel_rfl) (by simp) ?_
    refine AllReadyH.cons rfl (fun K hK => ?_) AllReadyH.nil
    go_simp
    refine (CS.out).mono ?_; rintro e9 w9 ⟨rfl, b9⟩
    have a9 := a8.below b9
    have m9 := m8.below b9
    have n9 := n8.below b9
    have B9 := ext_step B8 b9
    have O9 := (O8.below b9).more b9.size
    have L9 := (L8.below b9).more b9.size
    have M9 := (M8.below b9).more b9.size
    try go_wp2_with fail
    refine hK.out _ _ ?_ (fun hHeld => ?_)
    · exact ⟨a9.c0, a9.c1, m9.c0, m9.c1, n9.c0, n9.c1⟩
    clear hK K
    (try simp only [Act.put]); (try simp only [List.setIfInBounds_toArray]); (try simp only [List.set_cons_succ]); (try simp only [List.set_cons_zero])
    refine take_at (i := 8) (d := some 51) (v := ?_) rfl rfl (by kernel_rfl) (by kernel_rfl) (by kernel_rfl) (fun _ _ _ h => h) (Or.inl ⟨by rfl, ?hye7⟩) (by assumption) ?reste7
    case hye7 => (intro w hSw; (try dsimp only at hSw); go_simp; try with_reducible rfl)
    (try simp only [Act.put]); (try simp only [List.setIfInBounds_toArray]); (try simp only [List.set_cons_succ]); (try simp only [List.set_cons_zero])
    refine take_at (i := 9) (d := some 52) (v := ?_) rfl rfl (by kernel_rfl) (by kernel_rfl) (by kernel_rfl) (fun _ _ _ h => h) (Or.inl ⟨by rfl, ?hye8⟩) (by assumption) ?reste8
    case hye8 => (intro w hSw; (try dsimp only at hSw); go_simp; try with_reducible rfl)
    (try simp only [Act.put]); (try simp only [List.setIfInBounds_toArray]); (try simp only [List.set_cons_succ]); (try simp only [List.set_cons_zero])
    refine take_at (i := 10) (d := some 53) (v := ?_) rfl rfl (by kernel_rfl) (by kernel_rfl) (by kernel_rfl) (fun _ _ _ h => h) (Or.inl ⟨by rfl, ?hye9⟩) (by assumption) ?reste9
    case hye9 => (intro w hSw; (try dsimp only at hSw); go_simp; try with_reducible rfl)
    (try simp only [Act.put]); (try simp only [List.setIfInBounds_toArray]); (try simp only [List.set_cons_succ]); (try simp only [List.set_cons_zero])
    refine take_at (i := 11) (d := some 54) (v := ?_) rfl rfl (by kernel_rfl) (by kernel_rfl) (by kernel_rfl) (fun _ _ _ h => h) (Or.inl ⟨by rfl, ?hye10⟩) (by assumption) ?reste10
    case hye10 => (intro w hSw; (try dsimp only at hSw); go_simp; try with_reducible rfl)
    (try simp only [Act.put]); (try simp only [List.setIfInBounds_toArray]); (try simp only [List.set_cons_succ]); (try simp only [List.set_cons_zero])
    refine take_at (i := 13) (d := some 56) (v := ?_) rfl rfl (by kernel_rfl) (by kernel_rfl) (by kernel_rfl) (fun _ _ _ h => h) (Or.inl ⟨by rfl, ?hye11⟩) (by assumption) ?reste11
    case hye11 => (intro w hSw; (try dsimp only at hSw); go_simp; try with_reducible rfl)
    (try simp only [Act.put]); (try simp only [List.setIfInBounds_toArray]); (try simp only [List.set_cons_succ]); (try simp only [List.set_cons_zero])
    refine wpAnyH_ready (rs := [12]) (by kernel_rfl) (by simp) ?_
    refine AllReadyH.cons rfl (fun K hK => ?_) AllReadyH.nil
    go_simp
    refine (CR.out _ ((HX.out.below B9).more B9.size)).mono ?_; rintro e10 w10 ⟨rfl, b10⟩
    have a10 := a9.below b10
    have m10 := m9.below b10
    have n10 := n9.below b10
    have B10 := ext_step B9 b10
    have O10 := (O9.below b10).more b10.size
    have L10 := (L9.below b10).more b10.size
    have M10 := (M9.below b10).more b10.size
    try go_wp2_with fail
    refine hK.out _ _ ?_ (fun hHeld => ?_)
    · exact ⟨a10.c0, a10.c1, m10.c0, m10.c1, n10.c0, n10.c1⟩
    clear hK K
    (try simp only [Act.put]); (try simp only [List.setIfInBounds_toArray]); (try simp only [List.set_cons_succ]); (try simp only [List.set_cons_zero])
    refine wpAnyH_ready (rs := [14]) (by kernel_rfl) (by simp) ?_
    refine AllReadyH.cons rfl (fun K hK => ?_) AllReadyH.nil
    go_simp
    refine (of8_any n _ x _ ((HX.out.below B10).more B10.size) (by omega)).mono ?_; rintro e11 w11 ⟨v11, rfl, hO11, b11⟩
    obtain ⟨A11, c11, rfl⟩ := hO11.val
    have a11 := a10.below b11
    have m11 := m10.below b11
    have n11 := n10.below b11
    have B11 := ext_step B10 b11
    have O11 := (O10.below b11).more b11.size
    have L11 := (L10.below b11).more b11.size
    have M11 := (M10.below b11).more b11.size
    try go_wp2_with fail
    refine hK.out _ _ ?_ (fun hHeld => ?_)
    · exact ⟨a11.c0, a11.c1, m11.c0, m11.c1, n11.c0, n11.c1⟩
    clear hK K
    (try simp only [Act.put]); (try simp only [List.setIfInBounds_toArray]); (try simp only [List.set_cons_succ]); (try simp only [List.set_cons_zero])
    refine wpAnyH_ready (rs := [15]) (by kernel_rfl) (by simp) ?_
    refine AllReadyH.cons rfl (fun K hK => ?_) AllReadyH.nil
    go_simp
    refine (DR.out _ _ hO11.labs).mono ?_; rintro e12 w12 ⟨rfl, b12⟩
    have a12 := a11.below b12
    have m12 := m11.below b12
    have n12 := n11.below b12
    have B12 := ext_step B11 b12
    have O12 := (O11.below b12).more b12.size
    have L12 := (L11.below b12).more b12.size
    have M12 := (M11.below b12).more b12.size
    try go_wp2_with fail
    refine hK.out _ _ ?_ (fun hHeld => ?_)
    · exact ⟨a12.c0, a12.c1, m12.c0, m12.c1, n12.c0, n12.c1⟩
    clear hK K
    (try simp only [Act.put]); (try simp only [List.setIfInBounds_toArray]); (try simp only [List.set_cons_succ]); (try simp only [List.set_cons_zero])
    refine take_at (i := 16) (d := some 59) (v := ?_) rfl rfl (by kernel_rfl) (by kernel_rfl) (by kernel_rfl) (fun _ _ _ h => h) (Or.inl ⟨by rfl, ?hye12⟩) (by assumption) ?reste12
    case hye12 => (intro w hSw; (try dsimp only at hSw); go_simp; try with_reducible rfl)
    (try simp only [Act.put]); (try simp only [List.setIfInBounds_toArray]); (try simp only [List.set_cons_succ]); (try simp only [List.set_cons_zero])
    refine take_at (i := 17) (d := some 60) (v := ?_) rfl rfl (by kernel_rfl) (by kernel_rfl) (by kernel_rfl) (fun _ _ _ h => h) (Or.inl ⟨by rfl, ?hye13⟩) (by assumption) ?reste13
    case hye13 => (intro w hSw; (try dsimp only at hSw); go_simp; try with_reducible rfl)
    (try simp only [Act.put]); (try simp only [List.setIfInBounds_toArray]); (try simp only [List.set_cons_succ]); (try simp only [List.set_cons_zero])
    refine take_at (i := 18) (d := some 61) (v := ?_) rfl rfl (by kernel_rfl) (by kernel_rfl) (by kernel_rfl) (fun _ _ _ h => h) (Or.inl ⟨by rfl, ?hye14⟩) (by assumption) ?reste14
    case hye14 => (intro w hSw; (try dsimp only at hSw); go_simp; try with_reducible rfl)
    (try simp only [Act.put]); (try simp only [List.setIfInBounds_toArray]); (try simp only [List.set_cons_succ]); (try simp only [List.set_cons_zero])
    refine take_at (i := 19) (d := some 62) (v := ?_) rfl rfl (by kernel_rfl) (by kernel_rfl) (by kernel_rfl) (fun _ _ _ h => h) (Or.inl ⟨by rfl, ?hye15⟩) (by assumption) ?reste15
    case hye15 => (intro w hSw; (try dsimp only at hSw); go_simp; try with_reducible rfl)
    (try simp only [Act.put]); (try simp only [List.setIfInBounds_toArray]); (try simp only [List.set_cons_succ]); (try simp only [List.set_cons_zero])
    refine take_at (i := 21) (d := some 64) (v := ?_) rfl rfl (by kernel_rfl) (by kernel_rfl) (by kernel_rfl) (fun _ _ _ h => h) (Or.inl ⟨by rfl, ?hye16⟩) (by assumption) ?reste16
    case hye16 => (intro w hSw; (try dsimp only at hSw); go_simp; try with_reducible rfl)
    (try simp only [Act.put]); (try simp only [List.setIfInBounds_toArray]); (try simp only [List.set_cons_succ]); (try simp only [List.set_cons_zero])
    refine wpAnyH_ready (rs := [20]) (by kernel_rfl) (by simp) ?_
    refine AllReadyH.cons rfl (fun K hK => ?_) AllReadyH.nil
    go_simp
    refine (CT.out _ ((HX.out.below B12).more B12.size)).mono ?_; rintro e13 w13 ⟨rfl, b13⟩
    have a13 := a12.below b13
    have m13 := m12.below b13
    have n13 := n12.below b13
    have B13 := ext_step B12 b13
    have O13 := (O12.below b13).more b13.size
    have L13 := (L12.below b13).more b13.size
    have M13 := (M12.below b13).more b13.size
    try go_wp2_with fail
    refine hK.out _ _ ?_ (fun hHeld => ?_)
    · exact ⟨a13.c0, a13.c1, m13.c0, m13.c1, n13.c0, n13.c1⟩
    clear hK K
    (try simp only [Act.put]); (try simp only [List.setIfInBounds_toArray]); (try simp only [List.set_cons_succ]); (try simp only [List.set_cons_zero])
    refine wpAnyH_ready (rs := [22]) (by kernel_rfl) (by simp) ?_
    refine AllReadyH.cons rfl (fun K hK => ?_) AllReadyH.nil
    go_simp
    refine (of8_any n _ x _ ((HX.out.below B13).more B13.size) (by omega)).mono ?_; rintro e14 w14 ⟨v14, rfl, hO14, b14⟩
    obtain ⟨A14, c14, rfl⟩ := hO14.val
    have a14 := a13.below b14
    have m14 := m13.below b14
    have n14 := n13.below b14
    have B14 := ext_step B13 b14
    have O14 := (O13.below b14).more b14.size
    have L14 := (L13.below b14).more b14.size
    have M14 := (M13.below b14).more b14.size
    try go_wp2_with fail
    refine hK.out _ _ ?_ (fun hHeld => ?_)
    · exact ⟨a14.c0, a14.c1, m14.c0, m14.c1, n14.c0, n14.c1⟩
    clear hK K
    (try simp only [Act.put]); (try simp only [List.setIfInBounds_toArray]); (try simp only [List.set_cons_succ]); (try simp only [List.set_cons_zero])
    refine wpAnyH_ready (rs := [23]) (by kernel_rfl) (by simp) ?_
    refine AllReadyH.cons rfl (fun K hK => ?_) AllReadyH.nil
    go_simp
    refine (DT.out _ _ hO14.labs).mono ?_; rintro e15 w15 ⟨rfl, b15⟩
    have a15 := a14.below b15
    have m15 := m14.below b15
    have n15 := n14.below b15
    have B15 := ext_step B14 b15
    have O15 := (O14.below b15).more b15.size
    have L15 := (L14.below b15).more b15.size
    have M15 := (M14.below b15).more b15.size
    try go_wp2_with fail
    refine hK.out _ _ ?_ (fun hHeld => ?_)
    · exact ⟨a15.c0, a15.c1, m15.c0, m15.c1, n15.c0, n15.c1⟩
    clear hK K
    (try simp only [Act.put]); (try simp only [List.setIfInBounds_toArray]); (try simp only [List.set_cons_succ]); (try simp only [List.set_cons_zero])
    refine take_at (i := 24) (d := some 67) (v := ?_) rfl rfl (by kernel_rfl) (by kernel_rfl) (by kernel_rfl) (fun _ _ _ h => h) (Or.inl ⟨by rfl, ?hye17⟩) (by assumption) ?reste17
    case hye17 => (intro w hSw; (try dsimp only at hSw); go_simp; try with_reducible rfl)
    (try simp only [Act.put]); (try simp only [List.setIfInBounds_toArray]); (try simp only [List.set_cons_succ]); (try simp only [List.set_cons_zero])
    refine take_at (i := 25) (d := some 68) (v := ?_) rfl rfl (by kernel_rfl) (by kernel_rfl) (by kernel_rfl) (fun _ _ _ h => h) (Or.inl ⟨by rfl, ?hye18⟩) (by assumption) ?reste18
    case hye18 => (intro w hSw; (try dsimp only at hSw); go_simp; try with_reducible rfl)
    (try simp only [Act.put]); (try simp only [List.setIfInBounds_toArray]); (try simp only [List.set_cons_succ]); (try simp only [List.set_cons_zero])
    refine take_at (i := 26) (d := some 69) (v := ?_) rfl rfl (by kernel_rfl) (by kernel_rfl) (by kernel_rfl) (fun _ _ _ h => h) (Or.inl ⟨by rfl, ?hye19⟩) (by assumption) ?reste19
    case hye19 => (intro w hSw; (try dsimp only at hSw); go_simp; try with_reducible rfl)
    (try simp only [Act.put]); (try simp only [List.setIfInBounds_toArray]); (try simp only [List.set_cons_succ]); (try simp only [List.set_cons_zero])
    refine take_at (i := 27) (d := some 70) (v := ?_) rfl rfl (by kernel_rfl) (by kernel_rfl) (by kernel_rfl) (fun _ _ _ h => h) (Or.inl ⟨by rfl, ?hye20⟩) (by assumption) ?reste20
    case hye20 => (intro w hSw; (try dsimp only at hSw); go_simp; try with_reducible rfl)
    (try simp only [Act.put]); (try simp only [List.setIfInBounds_toArray]); (try simp only [List.set_cons_succ]); (try simp only [List.set_cons_zero])
    refine take_at (i := 29) (d := some 72) (v := ?_) rfl rfl (by kernel_rfl) (by kernel_rfl) (by kernel_rfl) (fun _ _ _ h => h) (Or.inl ⟨by rfl, ?hye21⟩) (by assumption) ?reste21
    case hye21 => (intro w hSw; (try dsimp only at hSw); go_simp; try with_reducible rfl)
    (try simp only [Act.put]); (try simp only [List.setIfInBounds_toArray]); (try simp only [List.set_cons_succ]); (try simp only [List.set_cons_zero])
    refine wpAnyH_ready (rs := [28]) (by kernel_rfl) (by simp) ?_
    refine AllReadyH.cons rfl (fun K hK => ?_) AllReadyH.nil
    go_simp
    refine (CB.out _ ((HX.out.below B15).more B15.size)).mono ?_; rintro e16 w16 ⟨vb, rfl, Lb, b16⟩
    obtain ⟨Ab, cb, rfl⟩ := Lb.len
    have a16 := a15.below b16
    have m16 := m15.below b16
    have n16 := n15.below b16
    have B16 := ext_step B15 b16
    have O16 := (O15.below b16).more b16.size
    have L16 := (L15.below b16).more b16.size
    have M16 := (M15.below b16).more b16.size
    try go_wp2_with fail
    refine hK.out _ _ ?_ (fun hHeld => ?_)
    · exact ⟨a16.c0, a16.c1, m16.c0, m16.c1, n16.c0, n16.c1⟩
    clear hK K
    (try simp only [Act.put]); (try simp only [List.setIfInBounds_toArray]); (try simp only [List.set_cons_succ]); (try simp only [List.set_cons_zero])
    refine wpAnyH_ready (rs := [30]) (by kernel_rfl) (by simp) ?_
    refine AllReadyH.cons rfl (fun K hK => ?_) AllReadyH.nil
    go_simp
    refine (of8_any n _ x _ ((HX.out.below B16).more B16.size) (by omega)).mono ?_; rintro e17 w17 ⟨v17, rfl, hO17, b17⟩
    obtain ⟨A17, c17, rfl⟩ := hO17.val
    have a17 := a16.below b17
    have m17 := m16.below b17
    have n17 := n16.below b17
    have B17 := ext_step B16 b17
    have O17 := (O16.below b17).more b17.size
    have L17 := (L16.below b17).more b17.size
    have M17 := (M16.below b17).more b17.size
    have Lb := (Lb.below b17).more b17.size
    try go_wp2_with fail
    refine hK.out _ _ ?_ (fun hHeld => ?_)
    · exact ⟨a17.c0, a17.c1, m17.c0, m17.c1, n17.c0, n17.c1⟩
    clear hK K
    (try simp only [Act.put]); (try simp only [List.setIfInBounds_toArray]); (try simp only [List.set_cons_succ]); (try simp only [List.set_cons_zero])
    refine wpAnyH_ready (rs := [31]) (by kernel_rfl) (by simp) ?_
    refine AllReadyH.cons rfl (fun K hK => ?_) AllReadyH.nil
    go_simp
    refine (DB.out _ _ hO17.labs).mono ?_; rintro e18 w18 ⟨vc, rfl, hOc, b18⟩
    obtain ⟨Ac, cc, rfl⟩ := hOc.val
    have Lb := (Lb.below b18).more b18.size
    have a18 := a17.below b18
    have m18 := m17.below b18
    have n18 := n17.below b18
    have B18 := ext_step B17 b18
    have O18 := (O17.below b18).more b18.size
    have L18 := (L17.below b18).more b18.size
    have M18 := (M17.below b18).more b18.size
    have CZ := Lib.hid (sameBytes_any _ _ bb _ Lb hOc.lst HBL.out)
    try go_wp2_with fail
    refine hK.out _ _ ?_ (fun hHeld => ?_)
    · exact ⟨a18.c0, a18.c1, m18.c0, m18.c1, n18.c0, n18.c1⟩
    clear hK K
    (try simp only [Act.put]); (try simp only [List.setIfInBounds_toArray]); (try simp only [List.set_cons_succ]); (try simp only [List.set_cons_zero])
    refine wpAnyH_ready (rs := [32]) (by kernel_rfl) (by simp) ?_
    refine AllReadyH.cons rfl (fun K hK => ?_) AllReadyH.nil
    go_simp
    refine (CZ.out).mono ?_; rintro e19 w19 ⟨rfl, d19, hd19⟩
    have b19 : Below w18.heap.size w18 w19 := by subst hd19; exact below_drewN (Below.refl _ _) _
    clear hd19
    have a19 := a18.below b19
    have m19 := m18.below b19
    have n19 := n18.below b19
    have B19 := ext_step B18 b19
    have O19 := (O18.below b19).more b19.size
    have L19 := (L18.below b19).more b19.size
    have M19 := (M18.below b19).more b19.size
    try go_wp2_with fail
    refine hK.out _ _ ?_ (fun hHeld => ?_)
    · exact ⟨a19.c0, a19.c1, m19.c0, m19.c1, n19.c0, n19.c1⟩
    clear hK K
    (try simp only [Act.put]); (try simp only [List.setIfInBounds_toArray]); (try simp only [List.set_cons_succ]); (try simp only [List.set_cons_zero])
    refine take_at (i := 33) (d := some 76) (v := ?_) rfl rfl (by kernel_rfl) (by kernel_rfl) (by kernel_rfl) (fun _ _ _ h => h) (Or.inl ⟨by rfl, ?hye22⟩) (by assumption) ?reste22
    case hye22 => (intro w hSw; (try dsimp only at hSw); go_simp; try with_reducible rfl)
    (try simp only [Act.put]); (try simp only [List.setIfInBounds_toArray]); (try simp only [List.set_cons_succ]); (try simp only [List.set_cons_zero])
    refine take_at (i := 34) (d := some 77) (v := ?_) rfl rfl (by kernel_rfl) (by kernel_rfl) (by kernel_rfl) (fun _ _ _ h => h) (Or.inl ⟨by rfl, ?hye23⟩) (by assumption) ?reste23
    case hye23 => (intro w hSw; (try dsimp only at hSw); go_simp; try with_reducible rfl)
    (try simp only [Act.put]); (try simp only [List.setIfInBounds_toArray]); (try simp only [List.set_cons_succ]); (try simp only [List.set_cons_zero])
    refine wpAnyH_done (by kernel_rfl) ?_ _
    clear CR CT CB DR DT DB HBL HBE Lb HQ
    have HB19 := Lib.hid B19
    have HLQ := Lib.hid HSZ.out.2.1
    have hql : ql.length ≤ 1000000 := HSZ.out.2.1
    obtain ⟨s0, s1, -, -⟩ := id a19
    go_wp2_with fail
    go_loopw [10] (fun i wr => ∃ k : Nat, (∃ d, w19.drewN d = wr) ∧ k ≤ x.length ∧ i = .int .i64 k) (fun i _ => x.length - (intOf i).toNat)
    case atStart => exact ⟨0, ⟨0, rfl⟩, Nat.zero_le _, rfl⟩
    case round =>
      obtain ⟨k, ⟨d, rfl⟩, hk, rfl⟩ := hrel
      by_cases hlt : k < x.length
      · obtain ⟨ax, rfl, hbx, hcx⟩ := HX.out.at_ (by omega)
        obtain ⟨ao, rfl, hbo, hco⟩ := O19.at_ (by omega)
        have y0 := (HB19.out.cell (p := ax.add (k * 2)) (by rw [block_of_add]; exact hbx)).trans (hcx k hlt).1
        have y1 := (HB19.out.cell (p := ax.add (k * 2 + 1)) (by rw [block_of_add]; exact hbx)).trans (hcx k hlt).2
        obtain ⟨x0, x1⟩ := hco k hlt
        rw [add_next] at x1 y1
        have j0 : (0 : Int) ≤ (k : Int) := by omega
        have j1 : (k : Int) < (x.length : Int) := by omega
        have hne := fun W => label_neq x[k].1 x[k].2 W
        clear hcx hco
        generalize x[k].1 = p0 at *
        generalize x[k].2 = p1 at *
        go_wp2_with fail
        go_quiet (fail)
        go_wp2_with fail
        go_roundw
        case rel => exact ⟨k + 1, ⟨_, by first | rfl | (simp; rfl)⟩, hlt, by go_num⟩
        case measure => simp [intOf]; omega
      · obtain rfl : k = x.length := by omega
        have m20 := m19.drewN d
        have n20 := n19.drewN d
        have L20 : Labs (w19.drewN d) (w19.drewN d).heap.size (.slice A4 ql.length c4) ql := L19.keep fun _ _ => rfl
        have M20 : Labs (w19.drewN d) (w19.drewN d).heap.size (.slice A9 ql.length c9) ql := M19.keep fun _ _ => rfl
        have B20 := below_drewN HB19.out d
        clear m19 n19 L19 M19 O19 a19 s0 s1 HB19
        generalize w19.drewN d = w20 at *
        have CGt := Lib.hid (G.get qn (.slice A4 ql.length c4) ql nm w20 ⟨L20, HSZ.out.1, HSZ.out.2.1, HSZ.out.2.2⟩)
        obtain ⟨m0, m1, -, -⟩ := id m20
        have he0 : (ByteArray.empty.toList == ([] : List UInt8)) = true := by rw [empty_list]; rfl
        rcases hgo : getL ql nm with _ | v
        · rw [hgo] at CGt
          have HGO := Lib.hid hgo
          clear hgo
          have CGt : Hid (Calls Tryz.prog 21 #[.agg #[.string qn, .slice A4 ql.length c4], .string nm] w20 fun e w' => e = .returned (.tuple #[.string ByteArray.empty, .bool false]) ∧ Below w20.heap.size w20 w') := CGt
          go_wp2_with fail
          refine (CGt.out).mono ?_; rintro e21 w21 ⟨rfl, b21⟩
          have n21 := n20.below b21
          have M21 := (M20.below b21).more b21.size
          have B21 := ext_step B20 b21
          clear n20 M20 B20 b21 m0 m1 L20
          obtain ⟨n0, n1, -, -⟩ := id n21
          go_wp2_with fail
          go_loop [13] (fun i => ∃ k : Nat, k ≤ ql.length ∧ i = .int .i64 k) (fun i => ql.length - (intOf i).toNat)
          case atStart => exact ⟨0, Nat.zero_le _, rfl⟩
          case round =>
            obtain ⟨k, hk, rfl⟩ := hrel
            by_cases hlt : k < ql.length
            · obtain ⟨an, rfl, hbn, hcn⟩ := M21.at_ (by omega)
              have x0 := (hcn k hlt).1
              have hne : ql[k].1 ≠ nm := getL_none.1 HGO.out _ (List.getElem_mem hlt)
              have hnb : (ql[k].1.toList == nm.toList) = false := beq_eq_false_iff_ne.2 fun h => hne (toList_one.1 h)
              have j0 : (0 : Int) ≤ (k : Int) := by omega
              have j1 : (k : Int) < (ql.length : Int) := by omega
              clear hcn hne
              generalize ql[k].1 = p0 at *
              go_wp2_with fail
              go_round
              case rel => exact ⟨k + 1, hlt, by go_num⟩
              case measure => simp [intOf]; omega
            · obtain rfl : k = ql.length := by omega
              go_wp2_with fail
              go_ret
              exact ⟨rfl, B21⟩
        · rw [hgo] at CGt
          have HGO := Lib.hid hgo
          clear hgo
          have CGt : Hid (Calls Tryz.prog 21 #[.agg #[.string qn, .slice A4 ql.length c4], .string nm] w20 fun e w' => e = .returned (.tuple #[.string v, .bool true]) ∧ Below w20.heap.size w20 w') := CGt
          go_wp2_with fail
          refine (CGt.out).mono ?_; rintro e21 w21 ⟨rfl, b21⟩
          have n21 := n20.below b21
          have M21 := (M20.below b21).more b21.size
          have B21 := ext_step B20 b21
          clear n20 M20 B20 b21 m0 m1 L20
          obtain ⟨n0, n1, -, -⟩ := id n21
          go_wp2_with fail
          go_loop [13] (fun i => ∃ k : Nat, k ≤ ql.length ∧ i = .int .i64 k ∧ Hid (∀ j (h : j < ql.length), j < k → ql[j].1 ≠ nm)) (fun i => ql.length - (intOf i).toNat)
          case atStart => exact ⟨0, Nat.zero_le _, rfl, Lib.hid fun j _ h => absurd h (by omega)⟩
          case round =>
            obtain ⟨k, hk, rfl, hall⟩ := hrel
            by_cases hlt : k < ql.length
            · obtain ⟨an, rfl, hbn, hcn⟩ := M21.at_ (by omega)
              obtain ⟨x0, x1⟩ := hcn k hlt
              rw [add_next] at x1
              have j0 : (0 : Int) ≤ (k : Int) := by omega
              have j1 : (k : Int) < (ql.length : Int) := by omega
              by_cases he : ql[k].1 = nm
              · have hv : v = ql[k].2 := by
                  have := getL_at hlt hall.out he
                  rw [HGO.out] at this
                  injection this
                have hnb : (ql[k].1.toList == nm.toList) = true := by rw [he]; exact beq_self_eq_true _
                rw [← hv] at x1
                clear hcn he hv hall
                generalize ql[k].1 = p0 at *
                go_wp2_with fail
                go_ret
                exact ⟨rfl, B21⟩
              · have hall2 : Hid (∀ j (h : j < ql.length), j < k + 1 → ql[j].1 ≠ nm) := Lib.hid fun j hj hjk => by
                  by_cases e : j = k
                  · subst e; exact he
                  · exact hall.out j hj (by omega)
                have hnb : (ql[k].1.toList == nm.toList) = false := beq_eq_false_iff_ne.2 fun h => he (toList_one.1 h)
                clear hcn he hall
                generalize ql[k].1 = p0 at *
                go_wp2_with fail
                go_round
                case rel => exact ⟨k + 1, hlt, by go_num, hall2⟩
                case measure => simp [intOf]; omega
            · obtain rfl : k = ql.length := by omega
              exfalso
              have := getL_none.2 fun l hl => by
                obtain ⟨j, hj, rfl⟩ := List.getElem_of_mem hl
                exact hall.out j hj hj
              rw [HGO.out] at this
              cases this
end Go.Proofs.YteiilmnehdbdiaaGreatDoor
