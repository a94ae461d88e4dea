/- Law 8's LabelReads, walked. -/
import Derived.Test.YteiilmnehdbdiaaGreatDoorLabLawB
import Derived.Test.YteiilmnehdbdiaaGreatDoorLabW
import Derived.Test.YteiilmnehdbdiaaGreatDoorCopyBytes
namespace Go.Proofs.YteiilmnehdbdiaaGreatDoor
open Go.RowKit
variable {Rd : World → Nat → Nat → Nat → List Int → Int → Prop}

theorem RdC.drew_ {w : World} {g L U : Nat} {bs : List Int} {e : Int} (G : RdC Rd) (h : Rd w g L U bs e) : Rd w.drew g L U bs e := G.keep h (Nat.le_refl _) fun _ _ _ => rfl
theorem rdAll_sz (bs : List Int) (e : Int) : (readE bs e).1.size ≤ 1000000 ∧ (readE bs e).2.1.length ≤ 1000000 ∧ ∀ l ∈ (readE bs e).2.1, l.1.size ≤ 1000000 ∧ l.2.size ≤ 1000000 := by
  rcases readE_cases bs e with ⟨-, h⟩ | ⟨-, h1, h2⟩
  · exact right_sz h
  · rw [h1, h2]; exact ⟨by decide, by decide, by simp⟩
set_option maxRecDepth 100000 in
set_option maxHeartbeats 4000000 in
theorem labelReads_any (G : LabC Rd) (R : RdC Rd) (v : Value) (bs : List Int) (w : World) (L0 : Lst w w.heap.size .u8 v bs) (F0 : IsByte bs) : Calls Tryz.prog 5 #[v] w fun e w' => e = .returned (.bool true) ∧ Below w.heap.size w w' := by
  have CA := Lib.hid (alive8_any G R w)
  obtain ⟨A0, c0, rfl⟩ := L0.len
  have HL := Lib.hid L0
  have HF := Lib.hid F0
  clear L0 F0
  by_cases hs : 3000 < bs.length
  · have i1 : (3000 : Int) < (bs.length : Int) := by omega
    go_enter Tryz.func5, Tryz.ntmps5
    go_wp2_with fail
    refine (CA.out).mono ?_; rintro e w1 ⟨rfl, b1⟩
    go_wp2_with fail
    go_ret
    exact ⟨rfl, b1⟩
  have i1 : ¬ (3000 : Int) < (bs.length : Int) := by omega
  have hn : bs.length ≤ 1000000 := by omega
  go_enter Tryz.func5, Tryz.ntmps5
  go_wp2_with fail
  refine (CA.out).mono ?_; rintro e w1 ⟨rfl, b1⟩
  have C2 := Lib.hid (copyBytes_any _ bs w1 ((HL.out.below b1).more b1.size) hn)
  go_wp2_with fail
  refine (C2.out).mono ?_; rintro e2 w2 ⟨v2, rfl, hO2, b2⟩
  have B2 := ext_step b1 b2
  have C3 := Lib.hid (R.new v2 bs w2 hO2.lst HF.out hn)
  obtain ⟨A2, c2, rfl⟩ := hO2.val
  clear hO2 b2 C2
  go_wp2_with fail
  refine (C3.out).mono ?_; rintro e3 w3 ⟨g, rfl, hr3, b3⟩
  have B3 := ext_step B2 b3
  have C4 := Lib.hid (rNew6_any _ bs w3 w.heap.size B3.size (HL.out.below B3))
  have hg0 := B2.size
  have hg1 := b3.size
  clear C3 b3
  go_wp2_with fail
  refine (C4.out).mono ?_; rintro e4 w4 ⟨rfl, hS4, hz4, b4⟩
  have B4 := ext_step B3 b4
  have hr4 := R.below hr3 b4
  clear hr3 C4
  have C5 := Lib.hid (G.read w4 g _ _ bs 0 hr4 HF.out hn)
  have HSZ := Lib.hid (rdAll_sz bs 0)
  clear hr4
  go_wp2_with fail
  refine (C5.out).mono ?_; rintro e5 w5 ⟨⟨v5, rfl, L5, hab⟩, hr5, hA5⟩
  obtain ⟨A5, c5, rfl⟩ := L5.len
  have hS5 := hS4.aside hA5 hg0 (Nat.le_refl _)
  have B5 : Below w.heap.size w w5 := B4.trans (hA5.below hg0 B4.size)
  have hz5 := hA5.size
  generalize hX : readE bs 0 = q at *
  have HX := Lib.hid hX
  clear hX C5 hA5 hS4 B4
  obtain ⟨nm, x, er⟩ := q
  have HSZ : Hid (nm.size ≤ 1000000 ∧ x.length ≤ 1000000 ∧ ∀ l ∈ x, l.1.size ≤ 1000000 ∧ l.2.size ≤ 1000000) := HSZ
  have a5 := At2.new w5 (.string nm) (.slice A5 x.length c5) 24
  have k5 := grew1 w5 (.cells #[.string nm, .slice A5 x.length c5] 24)
  have hS6 := hS5.below k5
  have hr6 := R.below hr5 k5
  have L6 : Labs _ _ _ x := (L5.below k5).more k5.size
  have B6 := ext_step B5 k5
  have C6 := Lib.hid (rRead8_any w.heap.size w3.heap.size bs 0 _ hS6 HF.out hn)
  rw [HX.out] at C6
  clear hS5 hr5 L5 B5 k5 hS6
  go_wp2_with fail
  refine (C6.out).mono ?_; rintro e7 w7 ⟨⟨v7, rfl, hO7⟩, hS7, hA7⟩
  obtain ⟨A7, c7, rfl⟩ := hO7.val
  have hz7 := hA7.size
  rw [World.size_alloc] at hz7
  have a7 := hA7.at2 a5 (Or.inr (by omega))
  have L7 := (Labs.aside_ L6 hab hA7 (by omega) (Nat.le_refl _)).more hA7.size
  have hr7 := R.aside hr6 hA7 (Nat.le_refl _)
  have B7 : Below w.heap.size w w7 := B6.trans (hA7.below B3.size (by rw [World.size_alloc]; omega))
  have M7 := hO7.labs
  clear C6 hA7 L6 hr6 B6 a5 hO7 hab
  generalize rdAll bs 0 = al at *
  obtain ⟨ls, rest, re⟩ := al
  have hr7 : Rd w7 g w2.heap.size w3.heap.size rest re := hr7
  have hS7 : SRd w7 w.heap.size w3.heap.size rest re := hS7
  obtain ⟨v8, s7, hLs, -⟩ := hS7
  obtain ⟨A8, c8, rfl⟩ := hLs.len
  clear hLs
  have d7 := At2.new w7 (.string nm) (.slice A7 x.length c7) 32
  have k7 := grew1 w7 (.cells #[.string nm, .slice A7 x.length c7] 32)
  have a8 := a7.alloc (.cells #[.string nm, .slice A7 x.length c7] 32)
  have s8 := s7.alloc (.cells #[.string nm, .slice A7 x.length c7] 32)
  have L8 := (L7.below k7).more k7.size
  have M8 := (M7.below k7).more k7.size
  have hr8 := R.below hr7 k7
  have B8 := ext_step B7 k7
  clear k7 a7 s7 L7 M7 hr7 B7 hz4 hz5 hz7 hg0 hg1
  go_wp2_with fail
  have a9 := a8.drew
  have s9 := s8.drew
  have d9 := d7.drew
  have L9 := L8.drew_
  have M9 := M8.drew_
  have hr9 := R.drew_ hr8
  have B9 := ext_drew B8
  clear a8 s8 d7 L8 M8 hr8 B8
  refine wp_region_held_drew (S := fun w' => w'.cell? ⟨w5.heap.size, 0, none⟩ = some (.string nm) ∧ w'.cell? ⟨w5.heap.size, 1, none⟩ = some (.slice A5 x.length c5) ∧ w'.cell? ⟨w7.heap.size, 0, none⟩ = some (.string nm) ∧ w'.cell? ⟨w7.heap.size, 1, none⟩ = some (.slice A7 x.length c7) ∧ w'.cell? ⟨w3.heap.size, 0, none⟩ = some (.slice A8 rest.length c8) ∧ w'.cell? ⟨w3.heap.size, 1, none⟩ = some (.int .i64 re)) (by kernel_rfl) ?_ (fun hHeld => ?_)
  · exact ⟨a9.c0, a9.c1, d9.c0, d9.c1, s9.c0, s9.c1⟩
  refine take_at (i := 0) (d := some 31) (v := ?_) rfl rfl (by kernel_rfl) (by kernel_rfl) (by kernel_rfl) (fun _ _ _ h => h) (Or.inl ⟨by rfl, ?hyc1⟩) (by assumption) ?restc1
  case hyc1 => (intro w hSw; (try dsimp only at hSw); go_simp; try with_reducible rfl)
  (try simp only [Act.put]); (try simp only [List.setIfInBounds_toArray]); (try simp only [List.set_cons_succ]); (try simp only [List.set_cons_zero])
  refine take_at (i := 1) (d := some 32) (v := ?_) rfl rfl (by kernel_rfl) (by kernel_rfl) (by kernel_rfl) (fun _ _ _ h => h) (Or.inl ⟨by rfl, ?hyc2⟩) (by assumption) ?restc2
  case hyc2 => (intro w hSw; (try dsimp only at hSw); go_simp; try with_reducible rfl)
  (try simp only [Act.put]); (try simp only [List.setIfInBounds_toArray]); (try simp only [List.set_cons_succ]); (try simp only [List.set_cons_zero])
  refine take_at (i := 2) (d := some 33) (v := ?_) rfl rfl (by kernel_rfl) (by kernel_rfl) (by kernel_rfl) (fun _ _ _ h => h) (Or.inl ⟨by rfl, ?hyc3⟩) (by assumption) ?restc3
  case hyc3 => (intro w hSw; (try dsimp only at hSw); go_simp; try with_reducible rfl)
  (try simp only [Act.put]); (try simp only [List.setIfInBounds_toArray]); (try simp only [List.set_cons_succ]); (try simp only [List.set_cons_zero])
  refine take_at (i := 3) (d := some 34) (v := ?_) rfl rfl (by kernel_rfl) (by kernel_rfl) (by kernel_rfl) (fun _ _ _ h => h) (Or.inl ⟨by rfl, ?hyc4⟩) (by assumption) ?restc4
  case hyc4 => (intro w hSw; (try dsimp only at hSw); go_simp; try with_reducible rfl)
  (try simp only [Act.put]); (try simp only [List.setIfInBounds_toArray]); (try simp only [List.set_cons_succ]); (try simp only [List.set_cons_zero])
  refine take_at (i := 4) (d := some 35) (v := ?_) rfl rfl (by kernel_rfl) (by kernel_rfl) (by kernel_rfl) (fun _ _ _ h => h) (Or.inl ⟨by rfl, ?hyc5⟩) (by assumption) ?restc5
  case hyc5 => (intro w hSw; (try dsimp only at hSw); go_simp; try with_reducible rfl)
  (try simp only [Act.put]); (try simp only [List.setIfInBounds_toArray]); (try simp only [List.set_cons_succ]); (try simp only [List.set_cons_zero])
  refine take_at (i := 6) (d := some 37) (v := ?_) rfl rfl (by kernel_rfl) (by kernel_rfl) (by kernel_rfl) (fun _ _ _ h => h) (Or.inl ⟨by rfl, ?hyc6⟩) (by assumption) ?restc6
  case hyc6 => (intro w hSw; (try dsimp only at hSw); go_simp; try with_reducible rfl)
  (try simp only [Act.put]); (try simp only [List.setIfInBounds_toArray]); (try simp only [List.set_cons_succ]); (try simp only [List.set_cons_zero])
  refine wpAnyH_ready (rs := [5]) (by kernel_rfl) (by simp) ?_
  refine AllReadyH.cons rfl (fun K hK => ?_) AllReadyH.nil
  go_simp
  refine (of8_any nm _ x _ L9 HSZ.out.2.1).mono ?_; rintro e10 w10 ⟨v10, rfl, hO10, b10⟩
  obtain ⟨A10, c10, rfl⟩ := hO10.val
  have a10 := a9.below b10
  have d10 := d9.below b10
  have s10 := s9.below b10
  have B10 := ext_step B9 b10
  have hr10 := R.below hr9 b10
  have M10 := (M9.below b10).more b10.size
  have CS := Lib.hid (rSame8_any nm nm _ _ x x w10 hO10.labs M10 HSZ.out.2.1 HSZ.out.2.1)
  rw [decide_eq_true ⟨rfl, rfl⟩] at CS
  try go_wp2_with fail
  refine hK.out _ _ ?_ (fun hHeld => ?_)
  · exact ⟨a10.c0, a10.c1, d10.c0, d10.c1, s10.c0, s10.c1⟩
  clear hK K
  (try simp only [Act.put]); (try simp only [List.setIfInBounds_toArray]); (try simp only [List.set_cons_succ]); (try simp only [List.set_cons_zero])
  refine wpAnyH_ready (rs := [7]) (by kernel_rfl) (by simp) ?_
  refine AllReadyH.cons rfl (fun K hK => ?_) AllReadyH.nil
  go_simp
  refine (CS.out).mono ?_; rintro e11 w11 ⟨rfl, b11⟩
  have a11 := a10.below b11
  have d11 := d10.below b11
  have s11 := s10.below b11
  have B11 := ext_step B10 b11
  have hr11 := R.below hr10 b11
  have CL := Lib.hid (R.left w11 g _ _ rest re hr11)
  try go_wp2_with fail
  refine hK.out _ _ ?_ (fun hHeld => ?_)
  · exact ⟨a11.c0, a11.c1, d11.c0, d11.c1, s11.c0, s11.c1⟩
  clear hK K
  (try simp only [Act.put]); (try simp only [List.setIfInBounds_toArray]); (try simp only [List.set_cons_succ]); (try simp only [List.set_cons_zero])
  refine take_at (i := 8) (d := some 39) (v := ?_) rfl rfl (by kernel_rfl) (by kernel_rfl) (by kernel_rfl) (fun _ _ _ h => h) (Or.inl ⟨by rfl, ?hyc7⟩) (by assumption) ?restc7
  case hyc7 => (intro w hSw; (try dsimp only at hSw); go_simp; try with_reducible rfl)
  (try simp only [Act.put]); (try simp only [List.setIfInBounds_toArray]); (try simp only [List.set_cons_succ]); (try simp only [List.set_cons_zero])
  refine take_at (i := 9) (d := some 40) (v := ?_) rfl rfl (by kernel_rfl) (by kernel_rfl) (by kernel_rfl) (fun _ _ _ h => h) (Or.inl ⟨by rfl, ?hyc8⟩) (by assumption) ?restc8
  case hyc8 => (intro w hSw; (try dsimp only at hSw); go_simp; try with_reducible rfl)
  (try simp only [Act.put]); (try simp only [List.setIfInBounds_toArray]); (try simp only [List.set_cons_succ]); (try simp only [List.set_cons_zero])
  refine take_at (i := 10) (d := some 41) (v := ?_) rfl rfl (by kernel_rfl) (by kernel_rfl) (by kernel_rfl) (fun _ _ _ h => h) (Or.inl ⟨by rfl, ?hyc9⟩) (by assumption) ?restc9
  case hyc9 => (intro w hSw; (try dsimp only at hSw); go_simp; try with_reducible rfl)
  (try simp only [Act.put]); (try simp only [List.setIfInBounds_toArray]); (try simp only [List.set_cons_succ]); (try simp only [List.set_cons_zero])
  refine take_at (i := 12) (d := some 43) (v := ?_) rfl rfl (by kernel_rfl) (by kernel_rfl) (by kernel_rfl) (fun _ _ _ h => h) (Or.inl ⟨by rfl, ?hyc10⟩) (by assumption) ?restc10
  case hyc10 => (intro w hSw; (try dsimp only at hSw); go_simp; try with_reducible rfl)
  (try simp only [Act.put]); (try simp only [List.setIfInBounds_toArray]); (try simp only [List.set_cons_succ]); (try simp only [List.set_cons_zero])
  refine take_at (i := 13) (d := some 44) (v := ?_) rfl rfl (by kernel_rfl) (by kernel_rfl) (by kernel_rfl) (fun _ _ _ h => h) (Or.inl ⟨by rfl, ?hyc11⟩) (by assumption) ?restc11
  case hyc11 => (intro w hSw; (try dsimp only at hSw); go_simp; try with_reducible rfl)
  (try simp only [Act.put]); (try simp only [List.setIfInBounds_toArray]); (try simp only [List.set_cons_succ]); (try simp only [List.set_cons_zero])
  refine take_at (i := 14) (d := some 45) (v := ?_) rfl rfl (by kernel_rfl) (by kernel_rfl) (by kernel_rfl) (fun _ _ _ h => h) (Or.inl ⟨by rfl, ?hyc12⟩) (by assumption) ?restc12
  case hyc12 => (intro w hSw; (try dsimp only at hSw); go_simp; try with_reducible rfl)
  (try simp only [Act.put]); (try simp only [List.setIfInBounds_toArray]); (try simp only [List.set_cons_succ]); (try simp only [List.set_cons_zero])
  refine take_at (i := 15) (d := some 46) (v := ?_) rfl rfl (by kernel_rfl) (by kernel_rfl) (by kernel_rfl) (fun _ _ _ h => h) (Or.inl ⟨by rfl, ?hyc13⟩) (by assumption) ?restc13
  case hyc13 => (intro w hSw; (try dsimp only at hSw); go_simp; try with_reducible rfl)
  (try simp only [Act.put]); (try simp only [List.setIfInBounds_toArray]); (try simp only [List.set_cons_succ]); (try simp only [List.set_cons_zero])
  refine take_at (i := 16) (d := some 47) (v := ?_) rfl rfl (by kernel_rfl) (by kernel_rfl) (by kernel_rfl) (fun _ _ _ h => h) (Or.inl ⟨by rfl, ?hyc14⟩) (by assumption) ?restc14
  case hyc14 => (intro w hSw; (try dsimp only at hSw); go_simp; try with_reducible rfl)
  (try simp only [Act.put]); (try simp only [List.setIfInBounds_toArray]); (try simp only [List.set_cons_succ]); (try simp only [List.set_cons_zero])
  refine wpAnyH_ready (rs := [11]) (by kernel_rfl) (by simp) ?_
  refine AllReadyH.cons rfl (fun K hK => ?_) AllReadyH.nil
  go_simp
  refine (CL.out).mono ?_; rintro e12 w12 ⟨rfl, b12⟩
  have a12 := a11.below b12
  have d12 := d11.below b12
  have s12 := s11.below b12
  have B12 := ext_step B11 b12
  have hr12 := R.below hr11 b12
  have CE := Lib.hid (R.err w12 g _ _ rest re hr12)
  try go_wp2_with fail
  refine hK.out _ _ ?_ (fun hHeld => ?_)
  · exact ⟨a12.c0, a12.c1, d12.c0, d12.c1, s12.c0, s12.c1⟩
  clear hK K
  (try simp only [Act.put]); (try simp only [List.setIfInBounds_toArray]); (try simp only [List.set_cons_succ]); (try simp only [List.set_cons_zero])
  refine take_at (i := 17) (d := some 48) (v := ?_) rfl rfl (by kernel_rfl) (by kernel_rfl) (by kernel_rfl) (fun _ _ _ h => h) (Or.inl ⟨by rfl, ?hyc15⟩) (by assumption) ?restc15
  case hyc15 => (intro w hSw; (try dsimp only at hSw); go_simp; try with_reducible rfl)
  (try simp only [Act.put]); (try simp only [List.setIfInBounds_toArray]); (try simp only [List.set_cons_succ]); (try simp only [List.set_cons_zero])
  refine take_at (i := 18) (d := some 49) (v := ?_) rfl rfl (by kernel_rfl) (by kernel_rfl) (by kernel_rfl) (fun _ _ _ h => h) (Or.inl ⟨by rfl, ?hyc16⟩) (by assumption) ?restc16
  case hyc16 => (intro w hSw; (try dsimp only at hSw); go_simp; try with_reducible rfl)
  (try simp only [Act.put]); (try simp only [List.setIfInBounds_toArray]); (try simp only [List.set_cons_succ]); (try simp only [List.set_cons_zero])
  refine take_at (i := 19) (d := some 50) (v := ?_) rfl rfl (by kernel_rfl) (by kernel_rfl) (by kernel_rfl) (fun _ _ _ h => h) (Or.inl ⟨by rfl, ?hyc17⟩) (by assumption) ?restc17
  case hyc17 => (intro w hSw; (try dsimp only at hSw); go_simp; try with_reducible rfl)
  (try simp only [Act.put]); (try simp only [List.setIfInBounds_toArray]); (try simp only [List.set_cons_succ]); (try simp only [List.set_cons_zero])
  refine take_at (i := 20) (d := some 51) (v := ?_) rfl rfl (by kernel_rfl) (by kernel_rfl) (by kernel_rfl) (fun _ _ _ h => h) (Or.inl ⟨by rfl, ?hyc18⟩) (by assumption) ?restc18
  case hyc18 => (intro w hSw; (try dsimp only at hSw); go_simp; try with_reducible rfl)
  (try simp only [Act.put]); (try simp only [List.setIfInBounds_toArray]); (try simp only [List.set_cons_succ]); (try simp only [List.set_cons_zero])
  refine take_at (i := 22) (d := some 53) (v := ?_) rfl rfl (by kernel_rfl) (by kernel_rfl) (by kernel_rfl) (fun _ _ _ h => h) (Or.inl ⟨by rfl, ?hyc19⟩) (by assumption) ?restc19
  case hyc19 => (intro w hSw; (try dsimp only at hSw); go_simp; try with_reducible rfl)
  (try simp only [Act.put]); (try simp only [List.setIfInBounds_toArray]); (try simp only [List.set_cons_succ]); (try simp only [List.set_cons_zero])
  refine take_at (i := 23) (d := some 54) (v := ?_) rfl rfl (by kernel_rfl) (by kernel_rfl) (by kernel_rfl) (fun _ _ _ h => h) (Or.inl ⟨by rfl, ?hyc20⟩) (by assumption) ?restc20
  case hyc20 => (intro w hSw; (try dsimp only at hSw); go_simp; try with_reducible rfl)
  (try simp only [Act.put]); (try simp only [List.setIfInBounds_toArray]); (try simp only [List.set_cons_succ]); (try simp only [List.set_cons_zero])
  refine take_at (i := 24) (d := some 55) (v := ?_) rfl rfl (by kernel_rfl) (by kernel_rfl) (by kernel_rfl) (fun _ _ _ h => h) (Or.inl ⟨by rfl, ?hyc21⟩) (by assumption) ?restc21
  case hyc21 => (intro w hSw; (try dsimp only at hSw); go_simp; try with_reducible rfl)
  (try simp only [Act.put]); (try simp only [List.setIfInBounds_toArray]); (try simp only [List.set_cons_succ]); (try simp only [List.set_cons_zero])
  refine take_at (i := 25) (d := some 56) (v := ?_) rfl rfl (by kernel_rfl) (by kernel_rfl) (by kernel_rfl) (fun _ _ _ h => h) (Or.inl ⟨by rfl, ?hyc22⟩) (by assumption) ?restc22
  case hyc22 => (intro w hSw; (try dsimp only at hSw); go_simp; try with_reducible rfl)
  (try simp only [Act.put]); (try simp only [List.setIfInBounds_toArray]); (try simp only [List.set_cons_succ]); (try simp only [List.set_cons_zero])
  refine wpAnyH_ready (rs := [21]) (by kernel_rfl) (by simp) ?_
  refine AllReadyH.cons rfl (fun K hK => ?_) AllReadyH.nil
  go_simp
  refine (CE.out).mono ?_; rintro e13 w13 ⟨rfl, b13⟩
  have a13 := a12.below b13
  have d13 := d12.below b13
  have s13 := s12.below b13
  have B13 := ext_step B12 b13
  have hr13 := R.below hr12 b13
  try go_wp2_with fail
  refine hK.out _ _ ?_ (fun hHeld => ?_)
  · exact ⟨a13.c0, a13.c1, d13.c0, d13.c1, s13.c0, s13.c1⟩
  clear hK K
  (try simp only [Act.put]); (try simp only [List.setIfInBounds_toArray]); (try simp only [List.set_cons_succ]); (try simp only [List.set_cons_zero])
  refine take_at (i := 26) (d := some 57) (v := ?_) rfl rfl (by kernel_rfl) (by kernel_rfl) (by kernel_rfl) (fun _ _ _ h => h) (Or.inl ⟨by rfl, ?hyc23⟩) (by assumption) ?restc23
  case hyc23 => (intro w hSw; (try dsimp only at hSw); go_simp; try with_reducible rfl)
  (try simp only [Act.put]); (try simp only [List.setIfInBounds_toArray]); (try simp only [List.set_cons_succ]); (try simp only [List.set_cons_zero])
  refine take_at (i := 27) (d := some 58) (v := ?_) rfl rfl (by kernel_rfl) (by kernel_rfl) (by kernel_rfl) (fun _ _ _ h => h) (Or.inl ⟨by rfl, ?hyc24⟩) (by assumption) ?restc24
  case hyc24 => (intro w hSw; (try dsimp only at hSw); go_simp; try with_reducible rfl)
  (try simp only [Act.put]); (try simp only [List.setIfInBounds_toArray]); (try simp only [List.set_cons_succ]); (try simp only [List.set_cons_zero])
  refine take_at (i := 28) (d := some 2) (v := ?_) rfl rfl (by kernel_rfl) (by kernel_rfl) (by kernel_rfl) (fun _ _ _ h => h) (Or.inl ⟨by rfl, ?hyc25⟩) (by assumption) ?restc25
  case hyc25 => (intro w hSw; (try dsimp only at hSw); go_simp; try with_reducible rfl)
  (try simp only [Act.put]); (try simp only [List.setIfInBounds_toArray]); (try simp only [List.set_cons_succ]); (try simp only [List.set_cons_zero])
  refine wpAnyH_done (by kernel_rfl) ?_ _
  go_wp2_with fail
  go_ret
  exact ⟨rfl, B13⟩
end Go.Proofs.YteiilmnehdbdiaaGreatDoor
