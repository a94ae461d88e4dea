/- Law 8's LabelTexts, walked. -/
import Derived.Test.YteiilmnehdbdiaaGreatDoorLabV
import Derived.Test.YteiilmnehdbdiaaGreatDoorLabX
import Derived.Test.YteiilmnehdbdiaaGreatDoorPost
namespace Go.Proofs.YteiilmnehdbdiaaGreatDoor
open Go.RowKit
variable {Rd : World → Nat → Nat → Nat → List Int → Int → Prop}

theorem Labs.drew_ {w : World} {v : Value} {gs : List Lab} (h : Labs w w.heap.size v gs) : Labs w.drew w.drew.heap.size v gs := h.keep fun _ _ => rfl
theorem right_sz {n : ByteArray} {x : List Lab} (h : IsRight n x) : n.size ≤ 1000000 ∧ x.length ≤ 1000000 ∧ ∀ l ∈ x, l.1.size ≤ 1000000 ∧ l.2.size ≤ 1000000 :=
  ⟨by have := h.1.2.1; omega, by have := h.2.1; omega, fun l hl => ⟨by have := (h.2.2.1 l hl).1.2.1; omega, by have := (h.2.2.1 l hl).2.1; omega⟩⟩
set_option maxRecDepth 100000 in
set_option maxHeartbeats 4000000 in
theorem labelTexts_any (G : LabC Rd) (R : RdC Rd) (s : ByteArray) (w : World) : Calls Tryz.prog 4 #[.string s] w fun e w' => e = .returned (.bool true) ∧ Below w.heap.size w w' := by
  have CA := Lib.hid (alive8_any G R w)
  by_cases hs : 1500 < s.size
  · have i1 : (1500 : Int) < (s.size : Int) := by omega
    go_enter Tryz.func4, Tryz.ntmps4
    go_wp2_with fail
    refine (CA.out).mono ?_; rintro e w1 ⟨rfl, b1⟩
    go_wp2_with fail
    go_ret
    exact ⟨rfl, b1⟩
  have i1 : ¬ (1500 : Int) < (s.size : Int) := by omega
  have CP := Lib.hid fun W => G.parse s W (by omega)
  have CQ := Lib.hid fun W => rParse8_any s W (by omega)
  go_enter Tryz.func4, Tryz.ntmps4
  go_wp2_with fail
  refine (CA.out).mono ?_; rintro e w1 ⟨rfl, b1⟩
  go_wp2_with fail
  refine (CP.out _).mono ?_; intro e2 w2 h2
  rcases h2 with ⟨n, x, v, hr, hf, rfl, L2, b2⟩ | ⟨hno, v, rfl, L2, b2⟩
  · have HLX := Lib.hid (right_sz hr)
    obtain ⟨A2, c2, rfl⟩ := L2.len
    have B2 := ext_step b1 b2
    have a2 := At2.new w2 (.string n) (.slice A2 x.length c2) 24
    have k2 := grew1 w2 (.cells #[.string n, .slice A2 x.length c2] 24)
    have B3 := ext_step B2 k2
    have L3 := (L2.below k2).more k2.size
    go_wp2_with fail
    refine (CQ.out _).mono ?_; intro e4 w4 h4
    obtain ⟨v4, rfl, L4, b4⟩ : ∃ v4, e4 = .returned (.tuple #[.agg #[.string n, v4], .bool true]) ∧ Labs w4 w4.heap.size v4 x ∧ Below (w2.alloc (.cells #[.string n, .slice A2 x.length c2] 24)).heap.size (w2.alloc (.cells #[.string n, .slice A2 x.length c2] 24)) w4 := by
      rcases h4 with ⟨m, y, v4, hr4, hf4, he4, hO4, b4⟩ | ⟨hno, -⟩
      · obtain ⟨e1, e2⟩ := text_one hr4 hr (hf4.trans hf.symm)
        subst e1; subst e2
        exact ⟨v4, he4, hO4.labs, b4⟩
      · exact absurd hf (hno _ _ hr)
    have hT : Hid (textS n x = s) := Lib.hid ((if_pos hr).trans hf)
    have CR := Lib.hid fun W h => G.right n (.slice A2 x.length c2) x W ⟨h, HLX.out.1, HLX.out.2.1, HLX.out.2.2⟩
    have CT := Lib.hid fun W h => G.text n (.slice A2 x.length c2) x W ⟨h, HLX.out.1, HLX.out.2.1, HLX.out.2.2⟩
    rw [decide_eq_true hr] at CR
    rw [hT.out] at CT
    clear hr hf h4
    obtain ⟨A4, c4, rfl⟩ := L4.len
    have a4 := a2.below b4
    have B4 := ext_step B3 b4
    have L5 := (L3.below b4).more b4.size
    have d4 := At2.new w4 (.string n) (.slice A4 x.length c4) 32
    have k4 := grew1 w4 (.cells #[.string n, .slice A4 x.length c4] 32)
    have a5 := a4.alloc (.cells #[.string n, .slice A4 x.length c4] 32)
    have L6 := (L5.below k4).more k4.size
    have M6 := (L4.below k4).more k4.size
    have B5 := ext_step B4 k4
    go_wp2_with fail
    have a7 := a5.drew
    have d7 := d4.drew
    have B7 := ext_drew B5
    have L7 := Labs.drew_ L6
    have M7 := Labs.drew_ M6
    clear a5 d4 B5 L6 M6 a4 a2 L2 L3 L4 L5 B2 B3 B4 b1 b2 b4 k2 k4
    refine wp_region_held_drew (S := fun w' => w'.cell? ⟨w2.heap.size, 0, none⟩ = some (.string n) ∧ w'.cell? ⟨w2.heap.size, 1, none⟩ = some (.slice A2 x.length c2) ∧ w'.cell? ⟨w4.heap.size, 0, none⟩ = some (.string n) ∧ w'.cell? ⟨w4.heap.size, 1, none⟩ = some (.slice A4 x.length c4)) (by kernel_rfl) ?_ (fun hHeld => ?_)
    · exact ⟨a7.c0, a7.c1, d7.c0, d7.c1⟩
    refine take_at (i := 0) (d := some 22) (v := ?_) rfl rfl (by kernel_rfl) (by kernel_rfl) (by kernel_rfl) (fun _ _ _ h => h) (Or.inl ⟨by rfl, ?hyp1⟩) (by assumption) ?restp1
    case hyp1 => (intro w hSw; (try dsimp only at hSw); go_simp; try with_reducible rfl)
    (try simp only [Act.put]); (try simp only [List.setIfInBounds_toArray]); (try simp only [List.set_cons_succ]); (try simp only [List.set_cons_zero])
    refine take_at (i := 1) (d := some 23) (v := ?_) rfl rfl (by kernel_rfl) (by kernel_rfl) (by kernel_rfl) (fun _ _ _ h => h) (Or.inl ⟨by rfl, ?hyp2⟩) (by assumption) ?restp2
    case hyp2 => (intro w hSw; (try dsimp only at hSw); go_simp; try with_reducible rfl)
    (try simp only [Act.put]); (try simp only [List.setIfInBounds_toArray]); (try simp only [List.set_cons_succ]); (try simp only [List.set_cons_zero])
    refine take_at (i := 2) (d := some 24) (v := ?_) rfl rfl (by kernel_rfl) (by kernel_rfl) (by kernel_rfl) (fun _ _ _ h => h) (Or.inl ⟨by rfl, ?hyp3⟩) (by assumption) ?restp3
    case hyp3 => (intro w hSw; (try dsimp only at hSw); go_simp; try with_reducible rfl)
    (try simp only [Act.put]); (try simp only [List.setIfInBounds_toArray]); (try simp only [List.set_cons_succ]); (try simp only [List.set_cons_zero])
    refine take_at (i := 3) (d := some 25) (v := ?_) rfl rfl (by kernel_rfl) (by kernel_rfl) (by kernel_rfl) (fun _ _ _ h => h) (Or.inl ⟨by rfl, ?hyp4⟩) (by assumption) ?restp4
    case hyp4 => (intro w hSw; (try dsimp only at hSw); go_simp; try with_reducible rfl)
    (try simp only [Act.put]); (try simp only [List.setIfInBounds_toArray]); (try simp only [List.set_cons_succ]); (try simp only [List.set_cons_zero])
    refine take_at (i := 4) (d := some 26) (v := ?_) rfl rfl (by kernel_rfl) (by kernel_rfl) (by kernel_rfl) (fun _ _ _ h => h) (Or.inl ⟨by rfl, ?hyp5⟩) (by assumption) ?restp5
    case hyp5 => (intro w hSw; (try dsimp only at hSw); go_simp; try with_reducible rfl)
    (try simp only [Act.put]); (try simp only [List.setIfInBounds_toArray]); (try simp only [List.set_cons_succ]); (try simp only [List.set_cons_zero])
    refine take_at (i := 6) (d := some 28) (v := ?_) rfl rfl (by kernel_rfl) (by kernel_rfl) (by kernel_rfl) (fun _ _ _ h => h) (Or.inl ⟨by rfl, ?hyp6⟩) (by assumption) ?restp6
    case hyp6 => (intro w hSw; (try dsimp only at hSw); go_simp; try with_reducible rfl)
    (try simp only [Act.put]); (try simp only [List.setIfInBounds_toArray]); (try simp only [List.set_cons_succ]); (try simp only [List.set_cons_zero])
    refine wpAnyH_ready (rs := [5]) (by kernel_rfl) (by simp) ?_
    refine AllReadyH.cons rfl (fun K hK => ?_) AllReadyH.nil
    go_simp
    refine (of8_any n _ x _ L7 HLX.out.2.1).mono ?_; rintro e8 w8 ⟨v8, rfl, hO8, b8⟩
    obtain ⟨A8, c8, rfl⟩ := hO8.val
    have a8 := a7.below b8
    have d8 := d7.below b8
    have B8 := ext_step B7 b8
    have L8 := (L7.below b8).more b8.size
    have M8 := (M7.below b8).more b8.size
    have CS := Lib.hid (rSame8_any n n _ _ x x w8 hO8.labs M8 HLX.out.2.1 HLX.out.2.1)
    rw [decide_eq_true ⟨rfl, rfl⟩] at CS
    try go_wp2_with fail
    refine hK.out _ _ ?_ (fun hHeld => ?_)
    · exact ⟨a8.c0, a8.c1, d8.c0, d8.c1⟩
    clear hK K
    (try simp only [Act.put]); (try simp only [List.setIfInBounds_toArray]); (try simp only [List.set_cons_succ]); (try simp only [List.set_cons_zero])
    refine wpAnyH_ready (rs := [7]) (by kernel_rfl) (by simp) ?_
    refine AllReadyH.cons rfl (fun K hK => ?_) AllReadyH.nil
    go_simp
    refine (CS.out).mono ?_; rintro e9 w9 ⟨rfl, b9⟩
    have a9 := a8.below b9
    have d9 := d8.below b9
    have B9 := ext_step B8 b9
    have L9 := (L8.below b9).more b9.size
    try go_wp2_with fail
    refine hK.out _ _ ?_ (fun hHeld => ?_)
    · exact ⟨a9.c0, a9.c1, d9.c0, d9.c1⟩
    clear hK K
    (try simp only [Act.put]); (try simp only [List.setIfInBounds_toArray]); (try simp only [List.set_cons_succ]); (try simp only [List.set_cons_zero])
    refine take_at (i := 8) (d := some 30) (v := ?_) rfl rfl (by kernel_rfl) (by kernel_rfl) (by kernel_rfl) (fun _ _ _ h => h) (Or.inl ⟨by rfl, ?hyp7⟩) (by assumption) ?restp7
    case hyp7 => (intro w hSw; (try dsimp only at hSw); go_simp; try with_reducible rfl)
    (try simp only [Act.put]); (try simp only [List.setIfInBounds_toArray]); (try simp only [List.set_cons_succ]); (try simp only [List.set_cons_zero])
    refine take_at (i := 9) (d := some 31) (v := ?_) rfl rfl (by kernel_rfl) (by kernel_rfl) (by kernel_rfl) (fun _ _ _ h => h) (Or.inl ⟨by rfl, ?hyp8⟩) (by assumption) ?restp8
    case hyp8 => (intro w hSw; (try dsimp only at hSw); go_simp; try with_reducible rfl)
    (try simp only [Act.put]); (try simp only [List.setIfInBounds_toArray]); (try simp only [List.set_cons_succ]); (try simp only [List.set_cons_zero])
    refine wpAnyH_done (by kernel_rfl) ?_ _
    obtain ⟨s0, s1, -, -⟩ := id a9
    go_wp2_with fail
    refine (CR.out _ L9).mono ?_; rintro e10 w10 ⟨rfl, b10⟩
    have a10 := a9.below b10
    have B10 := ext_step B9 b10
    have L10 := (L9.below b10).more b10.size
    clear s0 s1
    obtain ⟨s0, s1, -, -⟩ := id a10
    go_wp2_with fail
    refine (CT.out _ L10).mono ?_; rintro e11 w11 ⟨rfl, b11⟩
    have B11 := ext_step B10 b11
    go_wp2_with fail
    go_ret
    exact ⟨rfl, B11⟩
  · have HLX : Hid ((ByteArray.empty).size ≤ 1000000 ∧ ([] : List Lab).length ≤ 1000000 ∧ ∀ l ∈ ([] : List Lab), l.1.size ≤ 1000000 ∧ l.2.size ≤ 1000000) := Lib.hid ⟨by decide, by decide, by simp⟩
    obtain ⟨A2, c2, rfl⟩ := L2.len
    have B2 := ext_step b1 b2
    have a2 := At2.new w2 (.string ByteArray.empty) (.slice A2 ([] : List Lab).length c2) 24
    have k2 := grew1 w2 (.cells #[.string ByteArray.empty, .slice A2 ([] : List Lab).length c2] 24)
    have B3 := ext_step B2 k2
    have L3 := (L2.below k2).more k2.size
    go_wp2_with fail
    refine (CQ.out _).mono ?_; intro e4 w4 h4
    obtain ⟨v4, rfl, L4, b4⟩ : ∃ v4, e4 = .returned (.tuple #[.agg #[.string ByteArray.empty, v4], .bool false]) ∧ Labs w4 w4.heap.size v4 [] ∧ Below (w2.alloc (.cells #[.string ByteArray.empty, .slice A2 ([] : List Lab).length c2] 24)).heap.size (w2.alloc (.cells #[.string ByteArray.empty, .slice A2 ([] : List Lab).length c2] 24)) w4 := by
      rcases h4 with ⟨m, y, v4, hr4, hf4, -⟩ | ⟨-, he4, b4⟩
      · exact absurd hf4 (hno _ _ hr4)
      · exact ⟨_, he4, Labs.nil _ _, b4⟩
    clear hno h4
    obtain ⟨A4, c4, rfl⟩ := L4.len
    have a4 := a2.below b4
    have B4 := ext_step B3 b4
    have L5 := (L3.below b4).more b4.size
    have d4 := At2.new w4 (.string ByteArray.empty) (.slice A4 ([] : List Lab).length c4) 32
    have k4 := grew1 w4 (.cells #[.string ByteArray.empty, .slice A4 ([] : List Lab).length c4] 32)
    have a5 := a4.alloc (.cells #[.string ByteArray.empty, .slice A4 ([] : List Lab).length c4] 32)
    have L6 := (L5.below k4).more k4.size
    have M6 := (L4.below k4).more k4.size
    have B5 := ext_step B4 k4
    go_wp2_with fail
    have a7 := a5.drew
    have d7 := d4.drew
    have B7 := ext_drew B5
    have L7 := Labs.drew_ L6
    have M7 := Labs.drew_ M6
    clear a5 d4 B5 L6 M6 a4 a2 L2 L3 L4 L5 B2 B3 B4 b1 b2 b4 k2 k4
    refine wp_region_held_drew (S := fun w' => w'.cell? ⟨w2.heap.size, 0, none⟩ = some (.string ByteArray.empty) ∧ w'.cell? ⟨w2.heap.size, 1, none⟩ = some (.slice A2 0 c2) ∧ w'.cell? ⟨w4.heap.size, 0, none⟩ = some (.string ByteArray.empty) ∧ w'.cell? ⟨w4.heap.size, 1, none⟩ = some (.slice A4 0 c4)) (by kernel_rfl) ?_ (fun hHeld => ?_)
    · exact ⟨a7.c0, a7.c1, d7.c0, d7.c1⟩
    refine take_at (i := 0) (d := some 22) (v := ?_) rfl rfl (by kernel_rfl) (by kernel_rfl) (by kernel_rfl) (fun _ _ _ h => h) (Or.inl ⟨by rfl, ?hyq1⟩) (by assumption) ?restq1
    case hyq1 => (intro w hSw; (try dsimp only at hSw); go_simp; try with_reducible rfl)
    (try simp only [Act.put]); (try simp only [List.setIfInBounds_toArray]); (try simp only [List.set_cons_succ]); (try simp only [List.set_cons_zero])
    refine take_at (i := 1) (d := some 23) (v := ?_) rfl rfl (by kernel_rfl) (by kernel_rfl) (by kernel_rfl) (fun _ _ _ h => h) (Or.inl ⟨by rfl, ?hyq2⟩) (by assumption) ?restq2
    case hyq2 => (intro w hSw; (try dsimp only at hSw); go_simp; try with_reducible rfl)
    (try simp only [Act.put]); (try simp only [List.setIfInBounds_toArray]); (try simp only [List.set_cons_succ]); (try simp only [List.set_cons_zero])
    refine take_at (i := 2) (d := some 24) (v := ?_) rfl rfl (by kernel_rfl) (by kernel_rfl) (by kernel_rfl) (fun _ _ _ h => h) (Or.inl ⟨by rfl, ?hyq3⟩) (by assumption) ?restq3
    case hyq3 => (intro w hSw; (try dsimp only at hSw); go_simp; try with_reducible rfl)
    (try simp only [Act.put]); (try simp only [List.setIfInBounds_toArray]); (try simp only [List.set_cons_succ]); (try simp only [List.set_cons_zero])
    refine take_at (i := 3) (d := some 25) (v := ?_) rfl rfl (by kernel_rfl) (by kernel_rfl) (by kernel_rfl) (fun _ _ _ h => h) (Or.inl ⟨by rfl, ?hyq4⟩) (by assumption) ?restq4
    case hyq4 => (intro w hSw; (try dsimp only at hSw); go_simp; try with_reducible rfl)
    (try simp only [Act.put]); (try simp only [List.setIfInBounds_toArray]); (try simp only [List.set_cons_succ]); (try simp only [List.set_cons_zero])
    refine take_at (i := 4) (d := some 26) (v := ?_) rfl rfl (by kernel_rfl) (by kernel_rfl) (by kernel_rfl) (fun _ _ _ h => h) (Or.inl ⟨by rfl, ?hyq5⟩) (by assumption) ?restq5
    case hyq5 => (intro w hSw; (try dsimp only at hSw); go_simp; try with_reducible rfl)
    (try simp only [Act.put]); (try simp only [List.setIfInBounds_toArray]); (try simp only [List.set_cons_succ]); (try simp only [List.set_cons_zero])
    refine take_at (i := 6) (d := some 28) (v := ?_) rfl rfl (by kernel_rfl) (by kernel_rfl) (by kernel_rfl) (fun _ _ _ h => h) (Or.inl ⟨by rfl, ?hyq6⟩) (by assumption) ?restq6
    case hyq6 => (intro w hSw; (try dsimp only at hSw); go_simp; try with_reducible rfl)
    (try simp only [Act.put]); (try simp only [List.setIfInBounds_toArray]); (try simp only [List.set_cons_succ]); (try simp only [List.set_cons_zero])
    refine wpAnyH_ready (rs := [5]) (by kernel_rfl) (by simp) ?_
    refine AllReadyH.cons rfl (fun K hK => ?_) AllReadyH.nil
    go_simp
    refine (of8_any ByteArray.empty _ [] _ L7 HLX.out.2.1).mono ?_; rintro e8 w8 ⟨v8, rfl, hO8, b8⟩
    obtain ⟨A8, c8, rfl⟩ := hO8.val
    have a8 := a7.below b8
    have d8 := d7.below b8
    have B8 := ext_step B7 b8
    have L8 := (L7.below b8).more b8.size
    have M8 := (M7.below b8).more b8.size
    have CS := Lib.hid (rSame8_any ByteArray.empty ByteArray.empty _ _ [] [] w8 hO8.labs M8 HLX.out.2.1 HLX.out.2.1)
    rw [decide_eq_true ⟨rfl, rfl⟩] at CS
    try go_wp2_with fail
    refine hK.out _ _ ?_ (fun hHeld => ?_)
    · exact ⟨a8.c0, a8.c1, d8.c0, d8.c1⟩
    clear hK K
    (try simp only [Act.put]); (try simp only [List.setIfInBounds_toArray]); (try simp only [List.set_cons_succ]); (try simp only [List.set_cons_zero])
    refine wpAnyH_ready (rs := [7]) (by kernel_rfl) (by simp) ?_
    refine AllReadyH.cons rfl (fun K hK => ?_) AllReadyH.nil
    go_simp
    refine (CS.out).mono ?_; rintro e9 w9 ⟨rfl, b9⟩
    have a9 := a8.below b9
    have d9 := d8.below b9
    have B9 := ext_step B8 b9
    have L9 := (L8.below b9).more b9.size
    try go_wp2_with fail
    refine hK.out _ _ ?_ (fun hHeld => ?_)
    · exact ⟨a9.c0, a9.c1, d9.c0, d9.c1⟩
    clear hK K
    (try simp only [Act.put]); (try simp only [List.setIfInBounds_toArray]); (try simp only [List.set_cons_succ]); (try simp only [List.set_cons_zero])
    refine take_at (i := 8) (d := some 30) (v := ?_) rfl rfl (by kernel_rfl) (by kernel_rfl) (by kernel_rfl) (fun _ _ _ h => h) (Or.inl ⟨by rfl, ?hyq7⟩) (by assumption) ?restq7
    case hyq7 => (intro w hSw; (try dsimp only at hSw); go_simp; try with_reducible rfl)
    (try simp only [Act.put]); (try simp only [List.setIfInBounds_toArray]); (try simp only [List.set_cons_succ]); (try simp only [List.set_cons_zero])
    refine take_at (i := 9) (d := some 31) (v := ?_) rfl rfl (by kernel_rfl) (by kernel_rfl) (by kernel_rfl) (fun _ _ _ h => h) (Or.inl ⟨by rfl, ?hyq8⟩) (by assumption) ?restq8
    case hyq8 => (intro w hSw; (try dsimp only at hSw); go_simp; try with_reducible rfl)
    (try simp only [Act.put]); (try simp only [List.setIfInBounds_toArray]); (try simp only [List.set_cons_succ]); (try simp only [List.set_cons_zero])
    refine wpAnyH_done (by kernel_rfl) ?_ _
    go_wp2_with fail
    go_ret
    exact ⟨rfl, B9⟩
end Go.Proofs.YteiilmnehdbdiaaGreatDoor
