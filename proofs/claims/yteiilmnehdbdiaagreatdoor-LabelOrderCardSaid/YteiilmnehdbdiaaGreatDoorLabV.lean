/- Law 8's guard, walked. -/
import Derived.Test.YteiilmnehdbdiaaGreatDoorLabC
import Derived.Test.YteiilmnehdbdiaaGreatDoorLabS
namespace Go.Proofs.YteiilmnehdbdiaaGreatDoor
open Go.RowKit
variable {Rd : World → Nat → Nat → Nat → List Int → Int → Prop}

abbrev hitsB : ByteArray := ⟨#[104, 105, 116, 115]⟩
abbrev labs1 : List Lab := [(⟨#[97]⟩, ⟨#[49]⟩), (⟨#[98]⟩, ⟨#[50]⟩)]
abbrev labs0 : List Lab := [(⟨#[98]⟩, ⟨#[50]⟩), (⟨#[97]⟩, ⟨#[49]⟩)]
theorem ltS_data (a b : ByteArray) : ltS a b = Op.bytesLess a.data.toList b.data.toList := by unfold ltS; rw [ByteArray.toList_eq, ByteArray.toList_eq]
set_option maxRecDepth 100000 in
theorem hits_right : IsRight hitsB labs1 := by
  refine ⟨by decide, by decide, ?_, ?_⟩
  · intro l hl
    simp only [List.mem_cons, List.not_mem_nil, or_false] at hl
    rcases hl with rfl | rfl <;> exact ⟨by decide, by decide⟩
  · refine List.pairwise_cons.2 ⟨fun b hb => ?_, List.pairwise_singleton _ _⟩
    rw [List.mem_singleton] at hb
    subst hb
    rw [ltS_data]; rfl
theorem hits_make : makeE hitsB labs0 = (hitsB, labs1, 0) := makeE_one hits_right (List.Perm.swap _ _ _)
theorem hits_twice : makeE hitsB [(⟨#[97]⟩, ByteArray.empty), (⟨#[97]⟩, ByteArray.empty)] = (ByteArray.empty, [], 18) := by
  unfold makeE
  rw [if_neg (not_not_intro hits_right.1), if_neg (by decide), if_neg]
  · rw [makeL, insL, Option.bind_some, makeL, insL, if_pos rfl]; rfl
  · refine not_not_intro fun l hl => ?_
    simp only [List.mem_cons, List.not_mem_nil, or_false, or_self] at hl
    subst hl
    exact ⟨(hits_right.2.2.1 _ (List.mem_cons_self ..)).1, by decide⟩
theorem hits_full : fullS hitsB labs1 = ⟨#[104, 105, 116, 115, 123, 97, 61, 49, 44, 98, 61, 50, 125]⟩ := data_one (by rw [full_bytes]; rfl)
theorem hits_text : textS hitsB labs1 = ⟨#[104, 105, 116, 115, 123, 97, 61, 49, 44, 98, 61, 50, 125]⟩ := (if_pos hits_right).trans hits_full
theorem hits_other (n : ByteArray) (x : List Lab) (hr : IsRight n x) : fullS n x ≠ ⟨#[104, 105, 116, 115, 123, 98, 61, 50, 44, 97, 61, 49, 125]⟩ := fun h => by
  obtain ⟨-, h2⟩ := par_labels (acc := labs0) (a := [104, 105, 116, 115]) (r1 := [98, 61, 50, 44, 97, 61, 49, 125]) (r2 := []) (wd := []) (nm := []) rfl (by decide) rfl (Or.inl rfl) hr h
  subst h2
  have := (List.pairwise_cons.1 hr.2.2.2).1 _ (List.mem_cons_self ..)
  rw [ltS_data] at this
  exact absurd this (by decide)
theorem hits_get : getL labs1 ⟨#[98]⟩ = some ⟨#[50]⟩ := getL_mem (sorted_nodup hits_right.2.2.2) (l := (⟨#[98]⟩, ⟨#[50]⟩)) (List.mem_cons_of_mem _ (List.mem_cons_self ..))
theorem hits_cmp : cmpI hitsB hitsB labs1 [] = 1 := by unfold cmpI; rw [ordS_self, if_neg (by simp)]; rfl
theorem bytI_byte (n : ByteArray) (x : List Lab) : IsByte (bytI n x) := by
  have ht : ∀ s, IsByte (txtL s) := fun s c hc => by
    unfold txtL at hc
    rcases List.mem_append.1 hc with h | h
    · exact leb_byte _ c h
    · exact strB_byte _ c h
  have hl : ∀ x, IsByte (labsL x) := by
    intro x
    induction x with
    | nil => exact fun c hc => absurd hc (by simp [labsL])
    | cons l t ih =>
      intro c hc
      rw [labsL] at hc
      rcases List.mem_append.1 hc with h | h
      · exact ht _ c h
      · rcases List.mem_append.1 h with h | h
        · exact ht _ c h
        · exact ih c h
  unfold bytI
  split
  · intro c hc
    unfold bytesL at hc
    rcases List.mem_append.1 hc with h | h
    · exact ht _ c h
    · rcases List.mem_append.1 h with h | h
      · exact leb_byte _ c h
      · exact hl x c h
  · exact fun c hc => absurd hc (by simp)
theorem labs1_sz : ∀ l ∈ labs1, l.1.size ≤ 1000000 ∧ l.2.size ≤ 1000000 := by
  intro l hl
  simp only [List.mem_cons, List.not_mem_nil, or_false] at hl
  rcases hl with rfl | rfl <;> exact ⟨by decide, by decide⟩
theorem serW_hits {w : World} {u : Value} (h : Labs w w.heap.size u labs1) : SerW w hitsB u labs1 := ⟨h, by decide, by decide, labs1_sz⟩

set_option maxRecDepth 100000 in
set_option maxHeartbeats 4000000 in
theorem alive8_any (G : LabC Rd) (R : RdC Rd) (w : World) : Calls Tryz.prog 8 #[] w fun e w' => e = .returned (.bool true) ∧ Below w.heap.size w w' := by
  have C1 : Hid (∀ W u, Labs W W.heap.size u labs0 → Calls Tryz.prog 10 #[.string hitsB, u] W fun e w' => ∃ v, e = .returned (.tuple #[.agg #[.string hitsB, v], .int .i64 0]) ∧ Labs w' w'.heap.size v labs1 ∧ Below W.heap.size W w') := Lib.hid fun W u h => by
    have := G.make hitsB u labs0 W ⟨h, by decide, by decide, fun l hl => labs1_sz l (by simp only [List.mem_cons, List.not_mem_nil, or_false] at hl ⊢; exact hl.symm)⟩
    rw [hits_make] at this
    exact this.mono fun _ _ ⟨v, h1, h2, h3, _⟩ => ⟨v, h1, h2, h3⟩
  have C2 : Hid (∀ W u, Labs W W.heap.size u [(⟨#[97]⟩, ByteArray.empty), (⟨#[97]⟩, ByteArray.empty)] → Calls Tryz.prog 10 #[.string hitsB, u] W fun e w' => ∃ v, e = .returned (.tuple #[.agg #[.string ByteArray.empty, v], .int .i64 18]) ∧ Labs w' w'.heap.size v [] ∧ Below W.heap.size W w') := Lib.hid fun W u h => by
    have := G.make hitsB u _ W ⟨h, by decide, by decide, fun l hl => by
      simp only [List.mem_cons, List.not_mem_nil, or_false, or_self] at hl
      subst hl
      exact ⟨by decide, by decide⟩⟩
    rw [hits_twice] at this
    exact this.mono fun _ _ ⟨v, h1, h2, h3, _⟩ => ⟨v, h1, h2, h3⟩
  have C3 : Hid (∀ W, Calls Tryz.prog 22 #[.string ⟨#[104, 105, 116, 115, 123, 97, 61, 49, 44, 98, 61, 50, 125]⟩] W fun e w' => ∃ v, e = .returned (.tuple #[.agg #[.string hitsB, v], .bool true]) ∧ Labs w' w'.heap.size v labs1 ∧ Below W.heap.size W w') := Lib.hid fun W =>
    (G.parse _ W (by decide)).mono fun e w' h => by
      rcases h with ⟨n, x, v, hr, hf, he, hL, hB⟩ | ⟨hno, -⟩
      · obtain ⟨h1, h2⟩ := text_one hr hits_right (hf.trans hits_full.symm)
        subst h1; subst h2
        exact ⟨v, he, hL, hB⟩
      · exact absurd hits_full (hno _ _ hits_right)
  have C4 : Hid (∀ W, Calls Tryz.prog 22 #[.string ⟨#[104, 105, 116, 115, 123, 98, 61, 50, 44, 97, 61, 49, 125]⟩] W fun e w' => ∃ v, e = .returned (.tuple #[.agg #[.string ByteArray.empty, v], .bool false]) ∧ Labs w' w'.heap.size v [] ∧ Below W.heap.size W w') := Lib.hid fun W =>
    (G.parse _ W (by decide)).mono fun e w' h => by
      rcases h with ⟨n, x, v, hr, hf, -⟩ | ⟨-, v, he, hL, hB⟩
      · exact absurd hf (hits_other n x hr)
      · exact ⟨v, he, hL, hB⟩
  have C5 : Hid (∀ W u, Labs W W.heap.size u labs1 → Calls Tryz.prog 21 #[.agg #[.string hitsB, u], .string ⟨#[98]⟩] W fun e w' => e = .returned (.tuple #[.string ⟨#[50]⟩, .bool true]) ∧ Below W.heap.size W w') := Lib.hid fun W u h => by
    have := G.get hitsB u labs1 ⟨#[98]⟩ W (serW_hits h)
    rw [hits_get] at this
    exact this
  have C6 : Hid (∀ W u, Labs W W.heap.size u labs1 → Calls Tryz.prog 19 #[.agg #[.string hitsB, u]] W fun e w' => ∃ v, e = .returned v ∧ Lst w' w'.heap.size .u8 v (bytesL hitsB labs1) ∧ Below W.heap.size W w') := Lib.hid fun W u h => by
    have := G.bytes hitsB u labs1 W (serW_hits h)
    unfold bytI at this
    rw [if_pos hits_right] at this
    exact this
  have hbb : IsByte (bytesL hitsB labs1) := by have := bytI_byte hitsB labs1; unfold bytI at this; rwa [if_pos hits_right] at this
  have hbl : (bytesL hitsB labs1).length ≤ 1000000 := by
    have e : bytesL hitsB labs1 = [4, 104, 105, 116, 115, 2, 1, 97, 1, 49, 1, 98, 1, 50] := by
      unfold bytesL
      simp only [labsL, txtL]
      rw [leb_lt (n := hitsB.size) (by decide), leb_lt (n := labs1.length) (by decide), leb_lt (n := (ByteArray.mk #[97]).size) (by decide), leb_lt (n := (ByteArray.mk #[98]).size) (by decide), leb_lt (n := (ByteArray.mk #[49]).size) (by decide), leb_lt (n := (ByteArray.mk #[50]).size) (by decide)]
      rfl
    rw [e]; decide
  obtain ⟨hre, hra⟩ := readE_bytes hits_right
  have C7 : Hid (∀ W u, Lst W W.heap.size .u8 u (bytesL hitsB labs1) → Calls Tryz.prog 24 #[u] W fun e w' => ∃ g, e = .returned (ptrV g) ∧ Rd w' g W.heap.size w'.heap.size (bytesL hitsB labs1) 0 ∧ Below W.heap.size W w') := Lib.hid fun W u h => R.new u _ W h hbb hbl
  have C8 : Hid (∀ W g L U, Rd W g L U (bytesL hitsB labs1) 0 → Calls Tryz.prog 27 #[ptrV g] W fun e' w' => ∃ v, e' = .returned (.tuple #[.agg #[.string hitsB, v], .int .i64 0]) ∧ Labs w' w'.heap.size v labs1 ∧ Aside L U W w') := Lib.hid fun W g L U h =>
    (G.read W g L U _ 0 h hbb hbl).mono fun e w' ⟨⟨v, he, hL, _⟩, _, hA⟩ => by
      rw [hre] at he hL
      exact ⟨v, he, hL, hA⟩
  have C9 : Hid (∀ W u, Labs W W.heap.size u labs1 → Calls Tryz.prog 14 #[.agg #[.string hitsB, u]] W fun e w' => e = .returned (.bool true) ∧ Below W.heap.size W w') := Lib.hid fun W u h => by
    have := G.right hitsB u labs1 W (serW_hits h)
    rw [decide_eq_true hits_right] at this
    exact this
  have C10 : Hid (∀ W u, Labs W W.heap.size u labs1 → Calls Tryz.prog 16 #[.agg #[.string hitsB, u]] W fun e w' => e = .returned (.string ⟨#[104, 105, 116, 115, 123, 97, 61, 49, 44, 98, 61, 50, 125]⟩) ∧ Below W.heap.size W w') := Lib.hid fun W u h => by
    have := G.text hitsB u labs1 W (serW_hits h)
    rw [hits_text] at this
    exact this
  have C11 : Hid (∀ W u v, Labs W W.heap.size u labs1 → Labs W W.heap.size v labs1 → Calls Tryz.prog 32 #[.agg #[.string hitsB, u], .agg #[.string hitsB, v]] W fun e w' => e = .returned (.bool true) ∧ Below W.heap.size W w') := Lib.hid fun W u v h k => by
    have := same8_any hitsB hitsB u v labs1 labs1 W (serW_hits h) (serW_hits k)
    rw [decide_eq_true ⟨rfl, rfl⟩] at this
    exact this
  have C12 : Hid (∀ W u, Labs W W.heap.size u labs1 → Calls Tryz.prog 31 #[.agg #[.string hitsB, u], .agg #[.string hitsB, .slice none 0 0]] W fun e w' => e = .returned (.int .i64 1) ∧ Below W.heap.size W w') := Lib.hid fun W u h => by
    have := G.compare hitsB u labs1 hitsB (.slice none 0 0) [] W (serW_hits h) ⟨Labs.nil _ _, by decide, by decide, by simp⟩
    rw [hits_cmp] at this
    exact this
  clear hbb hbl hre hra
  generalize bytesL hitsB labs1 = bb at *
  go_enter Tryz.func8, Tryz.ntmps8
  go_wp2_with fail
  refine (C1.out _ _ (Labs.fresh _ _ _ labs0 rfl _ (Lib.hid rfl))).mono ?_; rintro e1 w1 ⟨v1, rfl, L1, b1⟩
  obtain ⟨A1, c1, rfl⟩ : ∃ A c, v1 = .slice A 2 c := L1.len
  have B1 := (grew1 w _).trans (b1.mono (grew1 w _).size)
  have S1 := (At2.new w1 (.string hitsB) (.slice A1 2 c1) 24)
  clear b1
  go_wp2_with fail
  refine (C2.out _ _ (Labs.fresh _ _ _ [(⟨#[97]⟩, ByteArray.empty), (⟨#[97]⟩, ByteArray.empty)] rfl _ (Lib.hid (by simp)))).mono ?_; rintro e2 w2 ⟨v2, rfl, L2, b2⟩
  obtain ⟨A2, c2, rfl⟩ : ∃ A c, v2 = .slice A 0 c := L2.len
  have S2 := (S1.alloc _).below b2
  have k2 := (grew2 w1 _ _).trans (b2.mono (grew2 w1 _ _).size)
  have B2 := ext_step B1 k2
  have L1 := (L1.below k2).more k2.size
  clear L2 b2 k2 S1 B1
  obtain ⟨s0, s1, -, -⟩ := id S2
  go_wp2_with fail
  refine (C3.out _).mono ?_; rintro e3 w3 ⟨v3, rfl, L3, b3⟩
  obtain ⟨A3, c3, rfl⟩ : ∃ A c, v3 = .slice A 2 c := L3.len
  have S3 := (S2.alloc _).below b3
  have k3 := (grew1 w2 _).trans (b3.mono (grew1 w2 _).size)
  have B3 := ext_step B2 k3
  have L1 := (L1.below k3).more k3.size
  have P3 := At2.new w3 (.string hitsB) (.slice A3 2 c3) 24
  clear b3 k3 S2 B2 s0 s1
  obtain ⟨s0, s1, -, -⟩ := id S3
  go_wp2_with fail
  refine (C4.out _).mono ?_; rintro e4 w4 ⟨v4, rfl, L4, b4⟩
  obtain ⟨A4, c4, rfl⟩ : ∃ A c, v4 = .slice A 0 c := L4.len
  have S4 := (S3.alloc _).below b4
  have P4 := P3.below b4
  have k4 := (grew1 w3 _).trans (b4.mono (grew1 w3 _).size)
  have B4 := ext_step B3 k4
  have L1 := (L1.below k4).more k4.size
  have L3 := (L3.below k4).more k4.size
  clear L4 b4 k4 S3 P3 B3 s0 s1
  have S5 := S4.alloc (.cells #[.string ByteArray.empty, .slice A4 0 c4] 24)
  have P5 := P4.alloc (.cells #[.string ByteArray.empty, .slice A4 0 c4] 24)
  have k5 := grew1 w4 (.cells #[.string ByteArray.empty, .slice A4 0 c4] 24)
  have L1 := (L1.below k5).more k5.size
  have L3 := (L3.below k5).more k5.size
  have B5 := ext_step B4 k5
  clear k5
  obtain ⟨s0, s1, -, -⟩ := id S5
  go_wp2_with fail
  refine (C5.out _ _ L1).mono ?_; rintro e5 w5 ⟨rfl, b5⟩
  have S6 := S5.below b5
  have P6 := P5.below b5
  have L1 := (L1.below b5).more b5.size
  have L3 := (L3.below b5).more b5.size
  have B6 := ext_step B5 b5
  clear b5 S5 P5 B5 S4 P4 B4 s0 s1
  obtain ⟨s0, s1, -, -⟩ := id S6
  go_wp2_with fail
  refine (C6.out _ _ L1).mono ?_; rintro e6 w6 ⟨v6, rfl, L6, b6⟩
  have S7 := S6.below b6
  have P7 := P6.below b6
  have L1 := (L1.below b6).more b6.size
  have L3 := (L3.below b6).more b6.size
  have B7 := ext_step B6 b6
  clear b6 S6 P6 B6 s0 s1
  go_wp2_with fail
  refine (C7.out _ _ L6).mono ?_; rintro e7 w7 ⟨g, rfl, hr, b7⟩
  have B8 := ext_step B7 b7
  go_wp2_with fail
  refine (C8.out _ _ _ _ hr).mono ?_; rintro e8 w8 ⟨v8, rfl, L8, hA⟩
  obtain ⟨A8, c8, rfl⟩ : ∃ A c, v8 = .slice A 2 c := L8.len
  have k8 : Below w6.heap.size w6 w8 := b7.trans (hA.below (Nat.le_refl _) b7.size)
  have S9 := S7.below k8
  have P9 := P7.below k8
  have L1 := (L1.below k8).more k8.size
  have L3 := (L3.below k8).more k8.size
  have B9 := ext_step B7 k8
  clear k8 hA hr b7 B8 S7 P7 B7 L6
  have S10 := S9.alloc (.cells #[.string hitsB, .slice A8 2 c8] 24)
  have P10 := P9.alloc (.cells #[.string hitsB, .slice A8 2 c8] 24)
  have Q10 := At2.new w8 (.string hitsB) (.slice A8 2 c8) 24
  have k9 := grew1 w8 (.cells #[.string hitsB, .slice A8 2 c8] 24)
  have L1 := (L1.below k9).more k9.size
  have L3 := (L3.below k9).more k9.size
  have L8 := (L8.below k9).more k9.size
  have B10 := ext_step B9 k9
  clear k9 S9 P9 B9
  obtain ⟨s0, s1, -, -⟩ := id S10
  obtain ⟨p0, p1, -, -⟩ := id P10
  obtain ⟨q0, q1, -, -⟩ := id Q10
  go_wp2_with fail
  refine (C9.out _ _ L1).mono ?_; rintro e9 w9 ⟨rfl, b9⟩
  have S11 := S10.below b9
  have P11 := P10.below b9
  have Q11 := Q10.below b9
  have L1 := (L1.below b9).more b9.size
  have L3 := (L3.below b9).more b9.size
  have L8 := (L8.below b9).more b9.size
  have B11 := ext_step B10 b9
  clear b9 S10 P10 Q10 B10 s0 s1 p0 p1 q0 q1
  obtain ⟨s0, s1, -, -⟩ := id S11
  go_wp2_with fail
  refine (C10.out _ _ L1).mono ?_; rintro e10 w10 ⟨rfl, b10⟩
  have S12 := S11.below b10
  have P12 := P11.below b10
  have Q12 := Q11.below b10
  have L1 := (L1.below b10).more b10.size
  have L3 := (L3.below b10).more b10.size
  have L8 := (L8.below b10).more b10.size
  have B12 := ext_step B11 b10
  clear b10 S11 P11 Q11 B11 s0 s1
  obtain ⟨s0, s1, -, -⟩ := id S12
  obtain ⟨p0, p1, -, -⟩ := id P12
  go_wp2_with fail
  refine (C11.out _ _ _ L1 L3).mono ?_; rintro e11 w11 ⟨rfl, b11⟩
  have S13 := S12.below b11
  have Q13 := Q12.below b11
  have L1 := (L1.below b11).more b11.size
  have L8 := (L8.below b11).more b11.size
  have B13 := ext_step B12 b11
  clear b11 S12 P12 Q12 B12 s0 s1 p0 p1 L3
  obtain ⟨s0, s1, -, -⟩ := id S13
  obtain ⟨q0, q1, -, -⟩ := id Q13
  go_wp2_with fail
  refine (C11.out _ _ _ L1 L8).mono ?_; rintro e12 w12 ⟨rfl, b12⟩
  have S14 := S13.below b12
  have L1 := (L1.below b12).more b12.size
  have B14 := ext_step B13 b12
  clear b12 S13 Q13 B13 s0 s1 q0 q1 L8
  obtain ⟨s0, s1, -, -⟩ := id S14
  go_wp2_with fail
  refine (C12.out _ _ L1).mono ?_; rintro e13 w13 ⟨rfl, b13⟩
  have B15 := ext_step B14 b13
  go_wp2_with fail
  go_ret
  exact ⟨rfl, B15⟩
end Go.Proofs.YteiilmnehdbdiaaGreatDoor
