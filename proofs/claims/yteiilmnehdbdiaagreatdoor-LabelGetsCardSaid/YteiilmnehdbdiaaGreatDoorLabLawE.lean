/- Law 8's LabelGets, walked. -/
import Derived.Test.YteiilmnehdbdiaaGreatDoorLabLawB
import Derived.Test.YteiilmnehdbdiaaGreatDoorLabJ
import Derived.Test.YteiilmnehdbdiaaGreatDoorAppendW
import Derived.Test.YteiilmnehdbdiaaGreatDoorLabG
import Derived.Deep.CutBlock
import Derived.Deep.DeepCutAuto
namespace Go.Proofs.YteiilmnehdbdiaaGreatDoor
open Go.RowKit
variable {Rd : World → Nat → Nat → Nat → List Int → Int → Prop}

set_option maxRecDepth 100000 in
theorem labelE_info : (Tryz.prog.info? 45).map (fun i => (i.zero, i.size, i.bytes)) = some (some (.agg #[.string ByteArray.empty, .string ByteArray.empty]), 2, 32) := by kernel_rfl
theorem great_szE {n : ByteArray} {x : List Lab} (h : ¬ GreatS n x) : n.size ≤ 300 ∧ x.length ≤ 100 ∧ ∀ l ∈ x, l.1.size ≤ 300 ∧ l.2.size ≤ 300 := by
  refine ⟨?_, ?_, fun l hl => ⟨?_, ?_⟩⟩
  · exact Nat.le_of_not_lt fun k => h (Or.inr (Or.inl k))
  · exact Nat.le_of_not_lt fun k => h (Or.inl k)
  · exact Nat.le_of_not_lt fun k => h (Or.inr (Or.inr ⟨l, hl, Or.inl k⟩))
  · exact Nat.le_of_not_lt fun k => h (Or.inr (Or.inr ⟨l, hl, Or.inr k⟩))
theorem made_sz (n : ByteArray) (x : List Lab) : (makeE n x).1.size ≤ 1000000 ∧ (makeE n x).2.1.length ≤ 1000000 ∧ ∀ l ∈ (makeE n x).2.1, l.1.size ≤ 1000000 ∧ l.2.size ≤ 1000000 := by
  by_cases h : (makeE n x).2.2 = 0
  · exact right_sz (makeE_right h).1
  · obtain ⟨e1, e2⟩ := makeE_error h
    rw [e1, e2]
    exact ⟨by decide, by decide, by simp⟩

set_option maxRecDepth 100000 in
set_option maxHeartbeats 40000000 in
theorem labelGets_any (G : LabC Rd) (R : RdC Rd) (n : ByteArray) (u : Value) (x : List Lab) (mn mv : ByteArray) (w : World) (L0 : Labs w w.heap.size u x) :
    Calls Tryz.prog 7 #[.agg #[.string n, u], .agg #[.string mn, .string mv]] w fun e w' => e = .returned (.bool true) ∧ Below w.heap.size w w' := by
  obtain ⟨i0, hi, hz0, hz1, hz2⟩ := info_parts labelE_info
  obtain ⟨A0, c0, rfl⟩ := L0.len
  have hW := grew2 w (.cells #[.string n, .slice A0 x.length c0] 24) (.cells #[.string mn, .string mv] 45)
  have aS := (At2.new w (.string n) (.slice A0 x.length c0) 24).alloc (.cells #[.string mn, .string mv] 45)
  have eS := At2.new (w.alloc (.cells #[.string n, .slice A0 x.length c0] 24)) (.string mn) (.string mv) 45
  rw [World.size_alloc] at eS
  have CA := Lib.hid fun W => alive8_any G R W
  have CG := Lib.hid fun W h => great8_any n (.slice A0 x.length c0) x W h
  have HX := Lib.hid L0
  clear L0
  go_enter Tryz.func7, Tryz.ntmps7
  go_wp2_with fail
  refine (CA.out _).mono ?_; rintro e w1 ⟨rfl, b1⟩
  have a1 := aS.below b1
  have e1 := eS.below b1
  have B1 := ext_step hW b1
  clear aS eS hW b1
  obtain ⟨s0, s1, -, -⟩ := id a1
  go_wp2_with fail
  refine (CG.out _ ((HX.out.below B1).more B1.size)).mono ?_; rintro e2 w2 ⟨rfl, b2⟩
  have a2 := a1.below b2
  have e2 := e1.below b2
  have B2 := ext_step B1 b2
  clear a1 e1 B1 b2 s0 s1
  obtain ⟨s0, s1, -, -⟩ := id a2
  obtain ⟨t0, t1, -, -⟩ := id e2
  by_cases hg : GreatS n x
  · rw [decide_eq_true hg]
    go_wp2_with fail
    go_ret
    exact ⟨rfl, B2⟩
  rw [decide_eq_false hg]
  obtain ⟨g1, g2, g3⟩ := great_szE hg
  have HG3 := Lib.hid g3
  clear hg g3
  by_cases hn3 : 300 < mn.size
  · have i1 : (300 : Int) < (mn.size : Int) := by omega
    go_wp2_with fail
    go_ret
    exact ⟨rfl, B2⟩
  have i1 : ¬ (300 : Int) < (mn.size : Int) := by omega
  by_cases hv3 : 300 < mv.size
  · have i2 : (300 : Int) < (mv.size : Int) := by omega
    go_wp2_with fail
    go_ret
    exact ⟨rfl, B2⟩
  have i2 : ¬ (300 : Int) < (mv.size : Int) := by omega
  have CM := Lib.hid (G.make n (.slice A0 x.length c0) x w2 ⟨(HX.out.below B2).more B2.size, by omega, by omega, fun l h => by have := HG3.out l h; omega⟩)
  have HSZ := Lib.hid (made_sz n x)
  have HQ0 : Hid ((makeE n x).2.2 ≠ 0 → (makeE n x).1 = ByteArray.empty ∧ (makeE n x).2.1 = []) := Lib.hid makeE_error
  have HQ1 : Hid ((makeE n x).2.2 = 0 → ∀ l ∈ x, getL (makeE n x).2.1 l.1 = some l.2) := Lib.hid fun h l hl => made_get h hl
  have HQ2 : Hid ((makeE n x).2.2 = 0 → _) := Lib.hid fun h => made_more h (mn, mv)
  generalize makeE n x = q at *
  obtain ⟨qn, ql, qe⟩ := q
  have HSZ : Hid (qn.size ≤ 1000000 ∧ ql.length ≤ 1000000 ∧ ∀ l ∈ ql, l.1.size ≤ 1000000 ∧ l.2.size ≤ 1000000) := HSZ
  go_wp2_with fail
  refine (CM.out).mono ?_; rintro e4 w4 ⟨v4, rfl, L4, b4, -⟩
  have a4 := a2.below b4
  have e4 := e2.below b4
  have B4 := ext_step B2 b4
  clear a2 e2 B2 b4 s0 s1 t0 t1 CM
  by_cases hqe : qe = 0
  case neg =>
    obtain ⟨h1, h2⟩ := HQ0.out hqe
    have h1 : qn = ByteArray.empty := h1
    have h2 : ql = [] := h2
    subst h1; subst h2
    obtain ⟨A4, c4, rfl⟩ : ∃ A c, v4 = .slice A 0 c := L4.len
    have hq1 : (qe != 0) = true := by simpa using hqe
    have he0 : (ByteArray.empty.toList == ([] : List UInt8)) = true := by rw [empty_list]; rfl
    have m4 := At2.new w4 (.string ByteArray.empty) (.slice A4 0 c4) 24
    have k4 := grew1 w4 (.cells #[.string ByteArray.empty, .slice A4 0 c4] 24)
    have B5 := ext_step B4 k4
    obtain ⟨m0, m1, -, -⟩ := id m4
    clear hqe
    go_wp2_with fail
    go_ret
    exact ⟨rfl, B5⟩
  subst hqe
  have HQ3 := Lib.hid (HQ1.out rfl)
  have HQ4 := Lib.hid (HQ2.out rfl)
  clear HQ0 HQ1 HQ2
  obtain ⟨A4, c4, rfl⟩ := L4.len
  have hql : ql.length ≤ 1000000 := HSZ.out.2.1
  have m4 := At2.new w4 (.string qn) (.slice A4 ql.length c4) 24
  have k4 := grew1 w4 (.cells #[.string qn, .slice A4 ql.length c4] 24)
  have a5 := a4.alloc (.cells #[.string qn, .slice A4 ql.length c4] 24)
  have e5 := e4.alloc (.cells #[.string qn, .slice A4 ql.length c4] 24)
  have L5 := (L4.below k4).more k4.size
  have B5 := ext_step B4 k4
  clear a4 e4 B4 L4 k4
  obtain ⟨s0, s1, -, -⟩ := id a5
  go_wp2_with fail
  clear s0 s1
  change Code.wp _ _ _ _ (w4.alloc (.cells #[.string qn, .slice A4 ql.length c4] 24))
  generalize hmb : w4.heap.size = mb at *
  clear hmb
  generalize w4.alloc (.cells #[.string qn, .slice A4 ql.length c4] 24) = w5 at *
  have HA5 := Lib.hid a5
  have HE5 := Lib.hid e5
  have HM5 := Lib.hid m4
  have HL5 := Lib.hid L5
  have HB5 := Lib.hid B5
  clear a5 e5 m4 L5 B5
  go_loopw [7] (fun i wr => ∃ k : Nat, k ≤ x.length ∧ i = .int .i64 k ∧ Below w5.heap.size w5 wr) (fun i _ => x.length - (intOf i).toNat)
  case atStart => exact ⟨0, Nat.zero_le _, rfl, Below.refl _ _⟩
  case round =>
    obtain ⟨k, hk, rfl, hB⟩ := hrel
    have a6 := HA5.out.below hB
    have e6 := HE5.out.below hB
    have m6 := HM5.out.below hB
    have L6 := (HL5.out.below hB).more hB.size
    have B6 := ext_step HB5.out hB
    obtain ⟨s0, s1, -, -⟩ := id a6
    by_cases hlt : k < x.length
    · obtain ⟨ax, rfl, hbx, hcx⟩ := HX.out.at_ (by omega)
      have j0 : (0 : Int) ≤ (k : Int) := by omega
      have j1 : (k : Int) < (x.length : Int) := by omega
      have HC : Hid (∀ W', Below w.heap.size w W' → W'.cell? (ax.add (k * 2)) = some (.string x[k].1) ∧ W'.cell? ⟨(ax.add (k * 2)).block, (ax.add (k * 2)).off + 1, none⟩ = some (.string x[k].2)) := Lib.hid fun W' h' => by
        have x1 := (h'.cell (by rw [block_of_add]; exact hbx)).trans (hcx k hlt).2
        rw [add_next] at x1
        exact ⟨(h'.cell (by rw [block_of_add]; exact hbx)).trans (hcx k hlt).1, x1⟩
      have CGt := Lib.hid fun W (h : Labs W W.heap.size (.slice A4 ql.length c4) ql) => G.get qn (.slice A4 ql.length c4) ql x[k].1 W ⟨h, HSZ.out.1, HSZ.out.2.1, HSZ.out.2.2⟩
      have hgk : getL ql x[k].1 = some x[k].2 := HQ3.out _ (List.getElem_mem hlt)
      rw [hgk] at CGt
      have CGt : Hid (∀ W, Labs W W.heap.size (.slice A4 ql.length c4) ql → Calls Tryz.prog 21 #[.agg #[.string qn, .slice A4 ql.length c4], .string x[k].1] W fun e w' => e = .returned (.tuple #[.string x[k].2, .bool true]) ∧ Below W.heap.size W w') := CGt
      clear hcx hgk
      generalize x[k].1 = p0 at *
      generalize x[k].2 = p1 at *
      go_wp2_with fail
      have a7 := a6.drew
      have m7 := m6.drew
      have L7 := L6.drew_
      have B7 := ext_drew B6
      have K7 := ext_drew hB
      refine wp_region_held_drew (S := fun w' => w'.cell? ⟨w.heap.size, 1, none⟩ = some (.slice (some ax) x.length c0) ∧ w'.cell? ⟨mb, 0, none⟩ = some (.string qn) ∧ w'.cell? ⟨mb, 1, none⟩ = some (.slice A4 ql.length c4) ∧ w'.cell? (ax.add (k * 2)) = some (.string p0)) (by kernel_rfl) ?_ (fun hHeld => ?_)
      · exact ⟨a7.c1, m7.c0, m7.c1, (HC.out _ B7).1⟩
      clear a6 m6 L6 B6 e6 hB s0 s1
      generalize wr.drew = w7 at *
      refine take_at (i := 0) (d := some 59) (v := ?_) rfl rfl (by kernel_rfl) (by kernel_rfl) (by kernel_rfl) (fun _ _ _ h => h) (Or.inl ⟨by rfl, ?hyg1⟩) (by assumption) ?restg1
      case hyg1 => (intro w hSw; (try dsimp only at hSw); go_simp; try with_reducible rfl)
      (try simp only [Act.put]); (try simp only [List.setIfInBounds_toArray]); (try simp only [List.set_cons_succ]); (try simp only [List.set_cons_zero])
      refine take_at (i := 1) (d := some 60) (v := ?_) rfl rfl (by kernel_rfl) (by kernel_rfl) (by kernel_rfl) (fun _ _ _ h => h) (Or.inl ⟨by rfl, ?hyg2⟩) (by assumption) ?restg2
      case hyg2 => (intro w hSw; (try dsimp only at hSw); go_simp; try with_reducible rfl)
      (try simp only [Act.put]); (try simp only [List.setIfInBounds_toArray]); (try simp only [List.set_cons_succ]); (try simp only [List.set_cons_zero])
      refine take_at (i := 2) (d := some 61) (v := ?_) rfl rfl (by kernel_rfl) (by kernel_rfl) (by kernel_rfl) (fun _ _ _ h => h) (Or.inl ⟨by rfl, ?hyg3⟩) (by assumption) ?restg3
      case hyg3 => (intro w hSw; (try dsimp only at hSw); go_simp; try with_reducible rfl)
      (try simp only [Act.put]); (try simp only [List.setIfInBounds_toArray]); (try simp only [List.set_cons_succ]); (try simp only [List.set_cons_zero])
      refine take_at (i := 3) (d := some 62) (v := ?_) rfl rfl (by kernel_rfl) (by kernel_rfl) (by kernel_rfl) (fun _ _ _ h => h) (Or.inl ⟨by rfl, ?hyg4⟩) (by assumption) ?restg4
      case hyg4 => (intro w hSw; (try dsimp only at hSw); go_simp; try with_reducible rfl)
      (try simp only [Act.put]); (try simp only [List.setIfInBounds_toArray]); (try simp only [List.set_cons_succ]); (try simp only [List.set_cons_zero])
      refine take_at (i := 4) (d := some 63) (v := ?_) rfl rfl (by kernel_rfl) (by kernel_rfl) (by kernel_rfl) (fun _ _ _ h => h) (Or.inl ⟨by rfl, ?hyg5⟩) (by assumption) ?restg5
      case hyg5 => (intro w hSw; (try dsimp only at hSw); go_simp; try with_reducible rfl)
      (try simp only [Act.put]); (try simp only [List.setIfInBounds_toArray]); (try simp only [List.set_cons_succ]); (try simp only [List.set_cons_zero])
      refine take_at (i := 5) (d := some 64) (v := ?_) rfl rfl (by kernel_rfl) (by kernel_rfl) (by kernel_rfl) (fun _ _ _ h => h) (Or.inl ⟨by rfl, ?hyg6⟩) (by assumption) ?restg6
      case hyg6 => (intro w hSw; (try dsimp only at hSw); go_simp; try with_reducible rfl)
      (try simp only [Act.put]); (try simp only [List.setIfInBounds_toArray]); (try simp only [List.set_cons_succ]); (try simp only [List.set_cons_zero])
      refine take_at (i := 6) (d := some 65) (v := ?_) rfl rfl (by kernel_rfl) (by kernel_rfl) (by kernel_rfl) (fun _ _ _ h => h) (Or.inl ⟨by rfl, ?hyg7⟩) (by assumption) ?restg7
      case hyg7 => (intro w hSw; (try dsimp only at hSw); go_simp; try with_reducible rfl)
      (try simp only [Act.put]); (try simp only [List.setIfInBounds_toArray]); (try simp only [List.set_cons_succ]); (try simp only [List.set_cons_zero])
      refine wpAnyH_ready (rs := [7]) (by kernel_rfl) (by simp) ?_
      refine AllReadyH.cons rfl (fun K hK => ?_) AllReadyH.nil
      go_simp
      refine (CGt.out _ L7).mono ?_; rintro e8 w8 ⟨rfl, b8⟩
      have a8 := a7.below b8
      have m8 := m7.below b8
      have B8 := ext_step B7 b8
      have K8 := ext_step K7 b8
      try go_wp2_with fail
      refine hK.out _ _ ?_ (fun hHeld => ?_)
      · exact ⟨a8.c1, m8.c0, m8.c1, (HC.out _ B8).1⟩
      clear hK K
      (try simp only [Act.put]); (try simp only [List.setIfInBounds_toArray]); (try simp only [List.set_cons_succ]); (try simp only [List.set_cons_zero])
      refine take_at (i := 8) (d := some 58) (v := ?_) rfl rfl (by kernel_rfl) (by kernel_rfl) (by kernel_rfl) (fun _ _ _ h => h) (Or.inl ⟨by rfl, ?hyg8⟩) (by assumption) ?restg8
      case hyg8 => (intro w hSw; (try dsimp only at hSw); go_simp; try with_reducible rfl)
      (try simp only [Act.put]); (try simp only [List.setIfInBounds_toArray]); (try simp only [List.set_cons_succ]); (try simp only [List.set_cons_zero])
      refine take_at (i := 9) (d := some 67) (v := ?_) rfl rfl (by kernel_rfl) (by kernel_rfl) (by kernel_rfl) (fun _ _ _ h => h) (Or.inl ⟨by rfl, ?hyg9⟩) (by assumption) ?restg9
      case hyg9 => (intro w hSw; (try dsimp only at hSw); go_simp; try with_reducible rfl)
      (try simp only [Act.put]); (try simp only [List.setIfInBounds_toArray]); (try simp only [List.set_cons_succ]); (try simp only [List.set_cons_zero])
      refine take_at (i := 10) (d := some 68) (v := ?_) rfl rfl (by kernel_rfl) (by kernel_rfl) (by kernel_rfl) (fun _ _ _ h => h) (Or.inl ⟨by rfl, ?hyg10⟩) (by assumption) ?restg10
      case hyg10 => (intro w hSw; (try dsimp only at hSw); go_simp; try with_reducible rfl)
      (try simp only [Act.put]); (try simp only [List.setIfInBounds_toArray]); (try simp only [List.set_cons_succ]); (try simp only [List.set_cons_zero])
      refine take_at (i := 11) (d := some 8) (v := ?_) rfl rfl (by kernel_rfl) (by kernel_rfl) (by kernel_rfl) (fun _ _ _ h => h) (Or.inl ⟨by rfl, ?hyg11⟩) (by assumption) ?restg11
      case hyg11 => (intro w hSw; (try dsimp only at hSw); go_simp; try with_reducible rfl)
      (try simp only [Act.put]); (try simp only [List.setIfInBounds_toArray]); (try simp only [List.set_cons_succ]); (try simp only [List.set_cons_zero])
      refine take_at (i := 12) (d := some 9) (v := ?_) rfl rfl (by kernel_rfl) (by kernel_rfl) (by kernel_rfl) (fun _ _ _ h => h) (Or.inl ⟨by rfl, ?hyg12⟩) (by assumption) ?restg12
      case hyg12 => (intro w hSw; (try dsimp only at hSw); go_simp; try with_reducible rfl)
      (try simp only [Act.put]); (try simp only [List.setIfInBounds_toArray]); (try simp only [List.set_cons_succ]); (try simp only [List.set_cons_zero])
      refine wpAnyH_done (by kernel_rfl) ?_ _
      obtain ⟨y0, y1⟩ := HC.out _ B8
      obtain ⟨s0, s1, -, -⟩ := id a8
      go_wp2_with fail
      go_roundw
      case rel => exact ⟨k + 1, hlt, by go_num, K8⟩
      case measure => simp [intOf]; omega
    · obtain rfl : k = x.length := by omega
      obtain ⟨t0, t1, -, -⟩ := id e6
      obtain ⟨m0, m1, -, -⟩ := id m6
      have CGt := Lib.hid (G.get qn (.slice A4 ql.length c4) ql mn _ ⟨L6, HSZ.out.1, HSZ.out.2.1, HSZ.out.2.2⟩)
      go_wp2_with fail
      refine (CGt.out).mono ?_; rintro e8 w8 ⟨rfl, b8⟩
      have a8 := a6.below b8
      have e8 := e6.below b8
      have m8 := m6.below b8
      have L8 := (L6.below b8).more b8.size
      have B8 := ext_step B6 b8
      clear a6 e6 m6 L6 B6 b8 s0 s1 t0 t1 m0 m1 CGt HA5 HE5 HM5 HL5 HB5 hB
      go_wp2_with fail
      have HZ2 := Lib.hid (made_sz n (x ++ [(mn, mv)]))
      have CM2 := Lib.hid fun v W (h : Labs W W.heap.size v (x ++ [(mn, mv)])) => G.make n v (x ++ [(mn, mv)]) W ⟨h, by omega, by rw [List.length_append]; simp; omega, fun l hl => by
        rcases List.mem_append.1 hl with k | k
        · have := HG3.out l k; omega
        · rw [List.mem_singleton] at k; subst k; exact ⟨by show mn.size ≤ _; omega, by show mv.size ≤ _; omega⟩⟩
      generalize makeE n (x ++ [(mn, mv)]) = q2 at *
      obtain ⟨rn, rl, re⟩ := q2
      have HZ2 : Hid (rn.size ≤ 1000000 ∧ rl.length ≤ 1000000 ∧ ∀ l ∈ rl, l.1.size ≤ 1000000 ∧ l.2.size ≤ 1000000) := HZ2
      have hml : x.length + 1 ≤ maxLen := by unfold maxLen; omega
      have hal := a8.lt
      have hel := e8.lt
      go_cut [12, 13] (fun d f wx => ∃ gz A9 c9, d = .pointer (some ⟨gz, 0, none⟩) ∧ f = .int .i64 re ∧ At2 wx gz (.string rn) (.slice A9 rl.length c9) ∧ Labs wx wx.heap.size (.slice A9 rl.length c9) rl ∧ Below w8.heap.size w8 wx)
      case first =>
        have K9 : Below w8.heap.size w8 w8.drew := (Below.refl _ _).drew
        have HS : Hid (∀ W', Below w8.heap.size w8 W' → W'.cell? ⟨w.heap.size, 0, none⟩ = some (.string n) ∧ W'.cell? ⟨w.heap.size, 1, none⟩ = some (.slice A0 x.length c0) ∧ W'.cell? ⟨w.heap.size + 1, 0, none⟩ = some (.string mn) ∧ W'.cell? ⟨w.heap.size + 1, 1, none⟩ = some (.string mv)) := Lib.hid fun W' h => ⟨(a8.below h).c0, (a8.below h).c1, (e8.below h).c0, (e8.below h).c1⟩
        refine wp_region_held_drew (S := fun w' => w'.cell? ⟨w.heap.size, 0, none⟩ = some (.string n) ∧ w'.cell? ⟨w.heap.size, 1, none⟩ = some (.slice A0 x.length c0) ∧ w'.cell? ⟨w.heap.size + 1, 0, none⟩ = some (.string mn) ∧ w'.cell? ⟨w.heap.size + 1, 1, none⟩ = some (.string mv)) (by kernel_rfl) ?_ (fun hHeld => ?_)
        · exact HS.out _ K9
        generalize w8.drew = w9 at *
        refine take_at (i := 0) (d := some 89) (v := ?_) rfl rfl (by kernel_rfl) (by kernel_rfl) (by kernel_rfl) (fun _ _ _ h => h) (Or.inl ⟨by rfl, ?hyh1⟩) (by assumption) ?resth1
        case hyh1 => (intro w hSw; (try dsimp only at hSw); go_simp; try with_reducible rfl)
        (try simp only [Act.put]); (try simp only [List.setIfInBounds_toArray]); (try simp only [List.set_cons_succ]); (try simp only [List.set_cons_zero])
        refine take_at (i := 1) (d := some 90) (v := ?_) rfl rfl (by kernel_rfl) (by kernel_rfl) (by kernel_rfl) (fun _ _ _ h => h) (Or.inl ⟨by rfl, ?hyh2⟩) (by assumption) ?resth2
        case hyh2 => (intro w hSw; (try dsimp only at hSw); go_simp; try with_reducible rfl)
        (try simp only [Act.put]); (try simp only [List.setIfInBounds_toArray]); (try simp only [List.set_cons_succ]); (try simp only [List.set_cons_zero])
        refine take_at (i := 3) (d := some 92) (v := ?_) rfl rfl (by kernel_rfl) (by kernel_rfl) (by kernel_rfl) (fun _ _ _ h => h) (Or.inl ⟨by rfl, ?hyh3⟩) (by assumption) ?resth3
        case hyh3 => (intro w hSw; (try dsimp only at hSw); go_simp; try with_reducible rfl)
        (try simp only [Act.put]); (try simp only [List.setIfInBounds_toArray]); (try simp only [List.set_cons_succ]); (try simp only [List.set_cons_zero])
        refine take_at (i := 4) (d := some 93) (v := ?_) rfl rfl (by kernel_rfl) (by kernel_rfl) (by kernel_rfl) (fun _ _ _ h => h) (Or.inl ⟨by rfl, ?hyh4⟩) (by assumption) ?resth4
        case hyh4 => (intro w hSw; (try dsimp only at hSw); go_simp; try with_reducible rfl)
        (try simp only [Act.put]); (try simp only [List.setIfInBounds_toArray]); (try simp only [List.set_cons_succ]); (try simp only [List.set_cons_zero])
        refine take_at (i := 6) (d := some 95) (v := ?_) rfl rfl (by kernel_rfl) (by kernel_rfl) (by kernel_rfl) (fun _ _ _ h => h) (Or.inl ⟨by rfl, ?hyh5⟩) (by assumption) ?resth5
        case hyh5 => (intro w hSw; (try dsimp only at hSw); go_simp; try with_reducible rfl)
        (try simp only [Act.put]); (try simp only [List.setIfInBounds_toArray]); (try simp only [List.set_cons_succ]); (try simp only [List.set_cons_zero])
        refine wpAnyH_ready (rs := [2, 7, 13]) (by kernel_rfl) (by simp) ?_
        refine AllReadyH.cons rfl (fun K hK => ?_) (AllReadyH.cons rfl (fun K hK => ?_) (AllReadyH.cons rfl (fun K hK => ?_) AllReadyH.nil))
        · have kb := grew1 w9 (.cells #[] 45)
          have K9i := ext_step K9 kb
          have o9i := OwnB.empty 45 w9
          have hb2 : w8.heap.size ≤ w9.heap.size := K9.size
          have hb3 := kb.size
          generalize hgb : w9.heap.size = gb at *
          go_simp
          change K _ (w9.alloc (.cells #[] 45))
          generalize w9.alloc (.cells #[] 45) = w9i at *
          clear hgb kb
          refine hK.out _ _ ?_ (fun hHeld => ?_)
          · exact HS.out _ K9i
          clear hK K
          (try simp only [Act.put]); (try simp only [List.setIfInBounds_toArray]); (try simp only [List.set_cons_succ]); (try simp only [List.set_cons_zero])
          refine wpAnyH_ready (rs := [5, 7, 13]) (by kernel_rfl) (by simp) ?_
          refine AllReadyH.cons rfl (fun K hK => ?_) (AllReadyH.cons rfl (fun K hK => ?_) (AllReadyH.cons rfl (fun K hK => ?_) AllReadyH.nil))
          · have hsb : gb ≤ w9i.heap.size := Nat.le_of_lt (World.ownsRow.lt o9i gb rfl).2
            refine step_append_cells2 _ rfl (.tmp 91) (.tmp 93) 22 rfl gb 45 i0 (.agg #[.string ByteArray.empty, .string ByteArray.empty]) 2 32 Tryz.underlying22 hi hz0 hz1 hz2 rfl (by decide) _ 0 [] rfl o9i A0 x.length c0 (cellsB x) rfl (cellsB_length x) ((HX.out.below (B8.trans (K9i.mono B8.size))).src fun _ _ => rfl) (cellsB_one x) (by omega) (by omega) hsb ?_
            intro v5 w9ia hr hgw hob
            obtain ⟨o9ia, hq⟩ := own_join (hs := x) o9i hsb hr hgw
            have K9ia := K9i.trans (hq.mono (by omega))
            have hsb := Nat.le_trans hsb hq.size
            clear hr hgw hob hq
            refine hK.out _ _ ?_ (fun hHeld => ?_)
            · exact HS.out _ K9ia
            clear hK K
            (try simp only [Act.put]); (try simp only [List.setIfInBounds_toArray]); (try simp only [List.set_cons_succ]); (try simp only [List.set_cons_zero])
            refine wpAnyH_ready (rs := [7, 13]) (by kernel_rfl) (by simp) ?_
            refine AllReadyH.cons rfl (fun K hK => ?_) (AllReadyH.cons rfl (fun K hK => ?_) AllReadyH.nil)
            · have kb := grew1 w9ia (.cells #[.string mn, .string mv] 45)
              have K9iap := ext_step K9ia kb
              have p9iap := At2.new w9ia (.string mn) (.string mv) 45
              have hp := apart_new o9ia
              have o9iap := o9ia.below kb
              have hsb := Nat.le_trans hsb kb.size
              generalize hgp : w9ia.heap.size = gp at *
              go_simp
              change K _ (w9ia.alloc (.cells #[.string mn, .string mv] 45))
              generalize w9ia.alloc (.cells #[.string mn, .string mv] 45) = w9iap at *
              clear hgp kb
              refine hK.out _ _ ?_ (fun hHeld => ?_)
              · exact HS.out _ K9iap
              clear hK K
              (try simp only [Act.put]); (try simp only [List.setIfInBounds_toArray]); (try simp only [List.set_cons_succ]); (try simp only [List.set_cons_zero])
              refine wpAnyH_ready (rs := [8, 13]) (by kernel_rfl) (by simp) ?_
              refine AllReadyH.cons rfl (fun K hK => ?_) (AllReadyH.cons rfl (fun K hK => ?_) AllReadyH.nil)
              · refine step_append_cells2 _ rfl (.tmp 94) (.tmp 96) 22 rfl gb 45 i0 (.agg #[.string ByteArray.empty, .string ByteArray.empty]) 2 32 Tryz.underlying22 hi hz0 hz1 hz2 rfl (by decide) _ x.length (cellsB x) rfl o9iap (some ⟨gp, 0, none⟩) 1 1 (cellsB [(mn, mv)]) rfl rfl (src_two p9iap) (cellsB_one _) (by omega) (by omega) hsb ?_
                intro v8 w9iapb hr hgw hob
                obtain ⟨o9iapb, hq⟩ := own_join (hs := [(mn, mv)]) o9iap hsb hr hgw
                have K9iapb := K9iap.trans (hq.mono (by omega))
                clear hr hgw hob hq
                refine hK.out _ _ ?_ (fun hHeld => ?_)
                · exact HS.out _ K9iapb
                clear hK K
                (try simp only [Act.put]); (try simp only [List.setIfInBounds_toArray]); (try simp only [List.set_cons_succ]); (try simp only [List.set_cons_zero])
                refine wpAnyH_ready (rs := [9, 13]) (by kernel_rfl) (by simp) ?_
                refine AllReadyH.cons rfl (fun K hK => ?_) (AllReadyH.cons rfl (fun K hK => ?_) AllReadyH.nil)
                · go_simp
                  refine (CM2.out _ _ o9iapb.labs).mono ?_; rintro e9 w9iapbm ⟨v9, rfl, L9, b9, hab⟩
                  obtain ⟨A9, c9, rfl⟩ := L9.len
                  have K9iapbm := ext_step K9iapb b9
                  try go_wp2_with fail
                  refine hK.out _ _ ?_ (fun hHeld => ?_)
                  · exact HS.out _ K9iapbm
                  clear hK K
                  (try simp only [Act.put]); (try simp only [List.setIfInBounds_toArray]); (try simp only [List.set_cons_succ]); (try simp only [List.set_cons_zero])
                  refine take_at (i := 10) (d := some 88) (v := ?_) rfl rfl (by kernel_rfl) (by kernel_rfl) (by kernel_rfl) (fun _ _ _ h => h) (Or.inl ⟨by rfl, ?hyh6⟩) (by assumption) ?resth6
                  case hyh6 => (intro w hSw; (try dsimp only at hSw); go_simp; try with_reducible rfl)
                  (try simp only [Act.put]); (try simp only [List.setIfInBounds_toArray]); (try simp only [List.set_cons_succ]); (try simp only [List.set_cons_zero])
                  refine take_at (i := 11) (d := some 99) (v := ?_) rfl rfl (by kernel_rfl) (by kernel_rfl) (by kernel_rfl) (fun _ _ _ h => h) (Or.inl ⟨by rfl, ?hyh7⟩) (by assumption) ?resth7
                  case hyh7 => (intro w hSw; (try dsimp only at hSw); go_simp; try with_reducible rfl)
                  (try simp only [Act.put]); (try simp only [List.setIfInBounds_toArray]); (try simp only [List.set_cons_succ]); (try simp only [List.set_cons_zero])
                  refine take_at (i := 12) (d := some 100) (v := ?_) rfl rfl (by kernel_rfl) (by kernel_rfl) (by kernel_rfl) (fun _ _ _ h => h) (Or.inl ⟨by rfl, ?hyh8⟩) (by assumption) ?resth8
                  case hyh8 => (intro w hSw; (try dsimp only at hSw); go_simp; try with_reducible rfl)
                  (try simp only [Act.put]); (try simp only [List.setIfInBounds_toArray]); (try simp only [List.set_cons_succ]); (try simp only [List.set_cons_zero])
                  refine wpAnyH_ready (rs := [13]) (by kernel_rfl) (by simp) ?_
                  refine AllReadyH.cons rfl (fun K hK => ?_) AllReadyH.nil
                  have kb := grew1 w9iapbm (.cells #[.string ByteArray.empty, .slice none 0 0] 24)
                  have K9iapbmz := ext_step K9iapbm kb
                  have hzk : w8.heap.size ≤ w9iapbm.heap.size := K9iapbm.size
                  have z9iapbmz := At2.new w9iapbm (.string ByteArray.empty) (.slice none 0 0) 24
                  have L9 := L9.below kb
                  generalize hgz : w9iapbm.heap.size = gz at *
                  go_simp
                  change K _ (w9iapbm.alloc (.cells #[.string ByteArray.empty, .slice none 0 0] 24))
                  generalize w9iapbm.alloc (.cells #[.string ByteArray.empty, .slice none 0 0] 24) = w9iapbmz at *
                  clear hgz kb
                  refine hK.out _ _ ?_ (fun hHeld => ?_)
                  · exact HS.out _ K9iapbmz
                  clear hK K
                  (try simp only [Act.put]); (try simp only [List.setIfInBounds_toArray]); (try simp only [List.set_cons_succ]); (try simp only [List.set_cons_zero])
                  refine wpAnyH_ready (rs := [14]) (by kernel_rfl) (by simp) ?_
                  refine AllReadyH.cons rfl (fun K hK => ?_) AllReadyH.nil
                  have zE := (z9iapbmz.set0 (.string rn)).set1 (.slice A9 rl.length c9)
                  have LE := ((L9.below ((Below.refl gz _).setCell (p := ⟨gz, 0, none⟩) (Nat.le_refl _) (.string rn))).below ((Below.refl gz _).setCell (p := ⟨gz, 1, none⟩) (Nat.le_refl _) (.slice A9 rl.length c9))).more (show gz ≤ ((w9iapbmz.setCell ⟨gz, 0, none⟩ (.string rn)).setCell ⟨gz, 1, none⟩ (.slice A9 rl.length c9)).heap.size by have := z9iapbmz.lt; simp; omega)
                  have K9iapbmzs := (K9iapbmz.setCell (p := ⟨gz, 0, none⟩) hzk (.string rn)).setCell (p := ⟨gz, 1, none⟩) hzk (.slice A9 rl.length c9)
                  obtain ⟨y0, y1, y2, y3⟩ := id z9iapbmz
                  go_simp
                  clear y0 y1 y2 y3
                  refine hK.out _ _ ?_ (fun hHeld => ?_)
                  · exact HS.out _ K9iapbmzs
                  clear hK K
                  (try simp only [Act.put]); (try simp only [List.setIfInBounds_toArray]); (try simp only [List.set_cons_succ]); (try simp only [List.set_cons_zero])
                  refine take_at (i := 15) (d := some 13) (v := ?_) rfl rfl (by kernel_rfl) (by kernel_rfl) (by kernel_rfl) (fun _ _ _ h => h) (Or.inl ⟨by rfl, ?hyh9⟩) (by assumption) ?resth9
                  case hyh9 => (intro w hSw; (try dsimp only at hSw); go_simp; try with_reducible rfl)
                  (try simp only [Act.put]); (try simp only [List.setIfInBounds_toArray]); (try simp only [List.set_cons_succ]); (try simp only [List.set_cons_zero])
                  refine wpAnyH_done (by kernel_rfl) ?_ _
                  go_wp2_with fail
                  go_meet
                  exact ⟨gz, A9, c9, rfl, rfl, zE, LE, K9iapbmzs⟩
                · have kb := grew1 w9iapb (.cells #[.string ByteArray.empty, .slice none 0 0] 24)
                  have K9iapbz := ext_step K9iapb kb
                  have hzk : w8.heap.size ≤ w9iapb.heap.size := K9iapb.size
                  have z9iapbz := At2.new w9iapb (.string ByteArray.empty) (.slice none 0 0) 24
                  have hz := apart_new o9iapb
                  have o9iapbz := o9iapb.below kb
                  generalize hgz : w9iapb.heap.size = gz at *
                  go_simp
                  change K _ (w9iapb.alloc (.cells #[.string ByteArray.empty, .slice none 0 0] 24))
                  generalize w9iapb.alloc (.cells #[.string ByteArray.empty, .slice none 0 0] 24) = w9iapbz at *
                  clear hgz kb
                  refine hK.out _ _ ?_ (fun hHeld => ?_)
                  · exact HS.out _ K9iapbz
                  clear hK K
                  (try simp only [Act.put]); (try simp only [List.setIfInBounds_toArray]); (try simp only [List.set_cons_succ]); (try simp only [List.set_cons_zero])
                  refine wpAnyH_ready (rs := [9]) (by kernel_rfl) (by simp) ?_
                  refine AllReadyH.cons rfl (fun K hK => ?_) AllReadyH.nil
                  go_simp
                  refine (CM2.out _ _ o9iapbz.labs).mono ?_; rintro e9 w9iapbzm ⟨v9, rfl, L9, b9, hab⟩
                  obtain ⟨A9, c9, rfl⟩ := L9.len
                  have K9iapbzm := ext_step K9iapbz b9
                  have hzl := z9iapbz.lt
                  have z9iapbzm := z9iapbz.below b9
                  try go_wp2_with fail
                  refine hK.out _ _ ?_ (fun hHeld => ?_)
                  · exact HS.out _ K9iapbzm
                  clear hK K
                  (try simp only [Act.put]); (try simp only [List.setIfInBounds_toArray]); (try simp only [List.set_cons_succ]); (try simp only [List.set_cons_zero])
                  refine take_at (i := 10) (d := some 88) (v := ?_) rfl rfl (by kernel_rfl) (by kernel_rfl) (by kernel_rfl) (fun _ _ _ h => h) (Or.inl ⟨by rfl, ?hyh10⟩) (by assumption) ?resth10
                  case hyh10 => (intro w hSw; (try dsimp only at hSw); go_simp; try with_reducible rfl)
                  (try simp only [Act.put]); (try simp only [List.setIfInBounds_toArray]); (try simp only [List.set_cons_succ]); (try simp only [List.set_cons_zero])
                  refine take_at (i := 11) (d := some 99) (v := ?_) rfl rfl (by kernel_rfl) (by kernel_rfl) (by kernel_rfl) (fun _ _ _ h => h) (Or.inl ⟨by rfl, ?hyh11⟩) (by assumption) ?resth11
                  case hyh11 => (intro w hSw; (try dsimp only at hSw); go_simp; try with_reducible rfl)
                  (try simp only [Act.put]); (try simp only [List.setIfInBounds_toArray]); (try simp only [List.set_cons_succ]); (try simp only [List.set_cons_zero])
                  refine take_at (i := 12) (d := some 100) (v := ?_) rfl rfl (by kernel_rfl) (by kernel_rfl) (by kernel_rfl) (fun _ _ _ h => h) (Or.inl ⟨by rfl, ?hyh12⟩) (by assumption) ?resth12
                  case hyh12 => (intro w hSw; (try dsimp only at hSw); go_simp; try with_reducible rfl)
                  (try simp only [Act.put]); (try simp only [List.setIfInBounds_toArray]); (try simp only [List.set_cons_succ]); (try simp only [List.set_cons_zero])
                  refine wpAnyH_ready (rs := [14]) (by kernel_rfl) (by simp) ?_
                  refine AllReadyH.cons rfl (fun K hK => ?_) AllReadyH.nil
                  have zE := (z9iapbzm.set0 (.string rn)).set1 (.slice A9 rl.length c9)
                  have LE : Labs _ ((w9iapbzm.setCell ⟨gz, 0, none⟩ (.string rn)).setCell ⟨gz, 1, none⟩ (.slice A9 rl.length c9)).heap.size _ rl := ((L9.awayNew hab (p := ⟨gz, 0, none⟩) hzl (.string rn)).awayNew hab (p := ⟨gz, 1, none⟩) hzl (.slice A9 rl.length c9)).more (by simp)
                  have K9iapbzms := (K9iapbzm.setCell (p := ⟨gz, 0, none⟩) hzk (.string rn)).setCell (p := ⟨gz, 1, none⟩) hzk (.slice A9 rl.length c9)
                  obtain ⟨y0, y1, y2, y3⟩ := id z9iapbzm
                  go_simp
                  clear y0 y1 y2 y3
                  refine hK.out _ _ ?_ (fun hHeld => ?_)
                  · exact HS.out _ K9iapbzms
                  clear hK K
                  (try simp only [Act.put]); (try simp only [List.setIfInBounds_toArray]); (try simp only [List.set_cons_succ]); (try simp only [List.set_cons_zero])
                  refine take_at (i := 15) (d := some 13) (v := ?_) rfl rfl (by kernel_rfl) (by kernel_rfl) (by kernel_rfl) (fun _ _ _ h => h) (Or.inl ⟨by rfl, ?hyh13⟩) (by assumption) ?resth13
                  case hyh13 => (intro w hSw; (try dsimp only at hSw); go_simp; try with_reducible rfl)
                  (try simp only [Act.put]); (try simp only [List.setIfInBounds_toArray]); (try simp only [List.set_cons_succ]); (try simp only [List.set_cons_zero])
                  refine wpAnyH_done (by kernel_rfl) ?_ _
                  go_wp2_with fail
                  go_meet
                  exact ⟨gz, A9, c9, rfl, rfl, zE, LE, K9iapbzms⟩
              · have kb := grew1 w9iap (.cells #[.string ByteArray.empty, .slice none 0 0] 24)
                have K9iapz := ext_step K9iap kb
                have hzk : w8.heap.size ≤ w9iap.heap.size := K9iap.size
                have z9iapz := At2.new w9iap (.string ByteArray.empty) (.slice none 0 0) 24
                have hz := apart_new o9iap
                have p9iapz := p9iap.below kb
                have o9iapz := o9iap.below kb
                have hsb := Nat.le_trans hsb kb.size
                generalize hgz : w9iap.heap.size = gz at *
                go_simp
                change K _ (w9iap.alloc (.cells #[.string ByteArray.empty, .slice none 0 0] 24))
                generalize w9iap.alloc (.cells #[.string ByteArray.empty, .slice none 0 0] 24) = w9iapz at *
                clear hgz kb
                refine hK.out _ _ ?_ (fun hHeld => ?_)
                · exact HS.out _ K9iapz
                clear hK K
                (try simp only [Act.put]); (try simp only [List.setIfInBounds_toArray]); (try simp only [List.set_cons_succ]); (try simp only [List.set_cons_zero])
                refine wpAnyH_ready (rs := [8]) (by kernel_rfl) (by simp) ?_
                refine AllReadyH.cons rfl (fun K hK => ?_) AllReadyH.nil
                refine step_append_cells2 _ rfl (.tmp 94) (.tmp 96) 22 rfl gb 45 i0 (.agg #[.string ByteArray.empty, .string ByteArray.empty]) 2 32 Tryz.underlying22 hi hz0 hz1 hz2 rfl (by decide) _ x.length (cellsB x) rfl o9iapz (some ⟨gp, 0, none⟩) 1 1 (cellsB [(mn, mv)]) rfl rfl (src_two p9iapz) (cellsB_one _) (by omega) (by omega) hsb ?_
                intro v8 w9iapzb hr hgw hob
                obtain ⟨o9iapzb, hq⟩ := own_join (hs := [(mn, mv)]) o9iapz hsb hr hgw
                have K9iapzb := K9iapz.trans (hq.mono (by omega))
                have z9iapzb := z9iapz.grown hgw hz
                have hz := apart_join hz z9iapz.lt hob
                clear hr hgw hob hq
                refine hK.out _ _ ?_ (fun hHeld => ?_)
                · exact HS.out _ K9iapzb
                clear hK K
                (try simp only [Act.put]); (try simp only [List.setIfInBounds_toArray]); (try simp only [List.set_cons_succ]); (try simp only [List.set_cons_zero])
                refine wpAnyH_ready (rs := [9]) (by kernel_rfl) (by simp) ?_
                refine AllReadyH.cons rfl (fun K hK => ?_) AllReadyH.nil
                go_simp
                refine (CM2.out _ _ o9iapzb.labs).mono ?_; rintro e9 w9iapzbm ⟨v9, rfl, L9, b9, hab⟩
                obtain ⟨A9, c9, rfl⟩ := L9.len
                have K9iapzbm := ext_step K9iapzb b9
                have hzl := z9iapzb.lt
                have z9iapzbm := z9iapzb.below b9
                try go_wp2_with fail
                refine hK.out _ _ ?_ (fun hHeld => ?_)
                · exact HS.out _ K9iapzbm
                clear hK K
                (try simp only [Act.put]); (try simp only [List.setIfInBounds_toArray]); (try simp only [List.set_cons_succ]); (try simp only [List.set_cons_zero])
                refine take_at (i := 10) (d := some 88) (v := ?_) rfl rfl (by kernel_rfl) (by kernel_rfl) (by kernel_rfl) (fun _ _ _ h => h) (Or.inl ⟨by rfl, ?hyh14⟩) (by assumption) ?resth14
                case hyh14 => (intro w hSw; (try dsimp only at hSw); go_simp; try with_reducible rfl)
                (try simp only [Act.put]); (try simp only [List.setIfInBounds_toArray]); (try simp only [List.set_cons_succ]); (try simp only [List.set_cons_zero])
                refine take_at (i := 11) (d := some 99) (v := ?_) rfl rfl (by kernel_rfl) (by kernel_rfl) (by kernel_rfl) (fun _ _ _ h => h) (Or.inl ⟨by rfl, ?hyh15⟩) (by assumption) ?resth15
                case hyh15 => (intro w hSw; (try dsimp only at hSw); go_simp; try with_reducible rfl)
                (try simp only [Act.put]); (try simp only [List.setIfInBounds_toArray]); (try simp only [List.set_cons_succ]); (try simp only [List.set_cons_zero])
                refine take_at (i := 12) (d := some 100) (v := ?_) rfl rfl (by kernel_rfl) (by kernel_rfl) (by kernel_rfl) (fun _ _ _ h => h) (Or.inl ⟨by rfl, ?hyh16⟩) (by assumption) ?resth16
                case hyh16 => (intro w hSw; (try dsimp only at hSw); go_simp; try with_reducible rfl)
                (try simp only [Act.put]); (try simp only [List.setIfInBounds_toArray]); (try simp only [List.set_cons_succ]); (try simp only [List.set_cons_zero])
                refine wpAnyH_ready (rs := [14]) (by kernel_rfl) (by simp) ?_
                refine AllReadyH.cons rfl (fun K hK => ?_) AllReadyH.nil
                have zE := (z9iapzbm.set0 (.string rn)).set1 (.slice A9 rl.length c9)
                have LE : Labs _ ((w9iapzbm.setCell ⟨gz, 0, none⟩ (.string rn)).setCell ⟨gz, 1, none⟩ (.slice A9 rl.length c9)).heap.size _ rl := ((L9.awayNew hab (p := ⟨gz, 0, none⟩) hzl (.string rn)).awayNew hab (p := ⟨gz, 1, none⟩) hzl (.slice A9 rl.length c9)).more (by simp)
                have K9iapzbms := (K9iapzbm.setCell (p := ⟨gz, 0, none⟩) hzk (.string rn)).setCell (p := ⟨gz, 1, none⟩) hzk (.slice A9 rl.length c9)
                obtain ⟨y0, y1, y2, y3⟩ := id z9iapzbm
                go_simp
                clear y0 y1 y2 y3
                refine hK.out _ _ ?_ (fun hHeld => ?_)
                · exact HS.out _ K9iapzbms
                clear hK K
                (try simp only [Act.put]); (try simp only [List.setIfInBounds_toArray]); (try simp only [List.set_cons_succ]); (try simp only [List.set_cons_zero])
                refine take_at (i := 15) (d := some 13) (v := ?_) rfl rfl (by kernel_rfl) (by kernel_rfl) (by kernel_rfl) (fun _ _ _ h => h) (Or.inl ⟨by rfl, ?hyh17⟩) (by assumption) ?resth17
                case hyh17 => (intro w hSw; (try dsimp only at hSw); go_simp; try with_reducible rfl)
                (try simp only [Act.put]); (try simp only [List.setIfInBounds_toArray]); (try simp only [List.set_cons_succ]); (try simp only [List.set_cons_zero])
                refine wpAnyH_done (by kernel_rfl) ?_ _
                go_wp2_with fail
                go_meet
                exact ⟨gz, A9, c9, rfl, rfl, zE, LE, K9iapzbms⟩
            · have kb := grew1 w9ia (.cells #[.string ByteArray.empty, .slice none 0 0] 24)
              have K9iaz := ext_step K9ia kb
              have hzk : w8.heap.size ≤ w9ia.heap.size := K9ia.size
              have z9iaz := At2.new w9ia (.string ByteArray.empty) (.slice none 0 0) 24
              have hz := apart_new o9ia
              have o9iaz := o9ia.below kb
              have hsb := Nat.le_trans hsb kb.size
              generalize hgz : w9ia.heap.size = gz at *
              go_simp
              change K _ (w9ia.alloc (.cells #[.string ByteArray.empty, .slice none 0 0] 24))
              generalize w9ia.alloc (.cells #[.string ByteArray.empty, .slice none 0 0] 24) = w9iaz at *
              clear hgz kb
              refine hK.out _ _ ?_ (fun hHeld => ?_)
              · exact HS.out _ K9iaz
              clear hK K
              (try simp only [Act.put]); (try simp only [List.setIfInBounds_toArray]); (try simp only [List.set_cons_succ]); (try simp only [List.set_cons_zero])
              refine wpAnyH_ready (rs := [7]) (by kernel_rfl) (by simp) ?_
              refine AllReadyH.cons rfl (fun K hK => ?_) AllReadyH.nil
              have kb := grew1 w9iaz (.cells #[.string mn, .string mv] 45)
              have K9iazp := ext_step K9iaz kb
              have p9iazp := At2.new w9iaz (.string mn) (.string mv) 45
              have hp := apart_new o9iaz
              have z9iazp := z9iaz.below kb
              have o9iazp := o9iaz.below kb
              have hsb := Nat.le_trans hsb kb.size
              generalize hgp : w9iaz.heap.size = gp at *
              go_simp
              change K _ (w9iaz.alloc (.cells #[.string mn, .string mv] 45))
              generalize w9iaz.alloc (.cells #[.string mn, .string mv] 45) = w9iazp at *
              clear hgp kb
              refine hK.out _ _ ?_ (fun hHeld => ?_)
              · exact HS.out _ K9iazp
              clear hK K
              (try simp only [Act.put]); (try simp only [List.setIfInBounds_toArray]); (try simp only [List.set_cons_succ]); (try simp only [List.set_cons_zero])
              refine wpAnyH_ready (rs := [8]) (by kernel_rfl) (by simp) ?_
              refine AllReadyH.cons rfl (fun K hK => ?_) AllReadyH.nil
              refine step_append_cells2 _ rfl (.tmp 94) (.tmp 96) 22 rfl gb 45 i0 (.agg #[.string ByteArray.empty, .string ByteArray.empty]) 2 32 Tryz.underlying22 hi hz0 hz1 hz2 rfl (by decide) _ x.length (cellsB x) rfl o9iazp (some ⟨gp, 0, none⟩) 1 1 (cellsB [(mn, mv)]) rfl rfl (src_two p9iazp) (cellsB_one _) (by omega) (by omega) hsb ?_
              intro v8 w9iazpb hr hgw hob
              obtain ⟨o9iazpb, hq⟩ := own_join (hs := [(mn, mv)]) o9iazp hsb hr hgw
              have K9iazpb := K9iazp.trans (hq.mono (by omega))
              have z9iazpb := z9iazp.grown hgw hz
              have hz := apart_join hz z9iazp.lt hob
              clear hr hgw hob hq
              refine hK.out _ _ ?_ (fun hHeld => ?_)
              · exact HS.out _ K9iazpb
              clear hK K
              (try simp only [Act.put]); (try simp only [List.setIfInBounds_toArray]); (try simp only [List.set_cons_succ]); (try simp only [List.set_cons_zero])
              refine wpAnyH_ready (rs := [9]) (by kernel_rfl) (by simp) ?_
              refine AllReadyH.cons rfl (fun K hK => ?_) AllReadyH.nil
              go_simp
              refine (CM2.out _ _ o9iazpb.labs).mono ?_; rintro e9 w9iazpbm ⟨v9, rfl, L9, b9, hab⟩
              obtain ⟨A9, c9, rfl⟩ := L9.len
              have K9iazpbm := ext_step K9iazpb b9
              have hzl := z9iazpb.lt
              have z9iazpbm := z9iazpb.below b9
              try go_wp2_with fail
              refine hK.out _ _ ?_ (fun hHeld => ?_)
              · exact HS.out _ K9iazpbm
              clear hK K
              (try simp only [Act.put]); (try simp only [List.setIfInBounds_toArray]); (try simp only [List.set_cons_succ]); (try simp only [List.set_cons_zero])
              refine take_at (i := 10) (d := some 88) (v := ?_) rfl rfl (by kernel_rfl) (by kernel_rfl) (by kernel_rfl) (fun _ _ _ h => h) (Or.inl ⟨by rfl, ?hyh18⟩) (by assumption) ?resth18
              case hyh18 => (intro w hSw; (try dsimp only at hSw); go_simp; try with_reducible rfl)
              (try simp only [Act.put]); (try simp only [List.setIfInBounds_toArray]); (try simp only [List.set_cons_succ]); (try simp only [List.set_cons_zero])
              refine take_at (i := 11) (d := some 99) (v := ?_) rfl rfl (by kernel_rfl) (by kernel_rfl) (by kernel_rfl) (fun _ _ _ h => h) (Or.inl ⟨by rfl, ?hyh19⟩) (by assumption) ?resth19
              case hyh19 => (intro w hSw; (try dsimp only at hSw); go_simp; try with_reducible rfl)
              (try simp only [Act.put]); (try simp only [List.setIfInBounds_toArray]); (try simp only [List.set_cons_succ]); (try simp only [List.set_cons_zero])
              refine take_at (i := 12) (d := some 100) (v := ?_) rfl rfl (by kernel_rfl) (by kernel_rfl) (by kernel_rfl) (fun _ _ _ h => h) (Or.inl ⟨by rfl, ?hyh20⟩) (by assumption) ?resth20
              case hyh20 => (intro w hSw; (try dsimp only at hSw); go_simp; try with_reducible rfl)
              (try simp only [Act.put]); (try simp only [List.setIfInBounds_toArray]); (try simp only [List.set_cons_succ]); (try simp only [List.set_cons_zero])
              refine wpAnyH_ready (rs := [14]) (by kernel_rfl) (by simp) ?_
              refine AllReadyH.cons rfl (fun K hK => ?_) AllReadyH.nil
              have zE := (z9iazpbm.set0 (.string rn)).set1 (.slice A9 rl.length c9)
              have LE : Labs _ ((w9iazpbm.setCell ⟨gz, 0, none⟩ (.string rn)).setCell ⟨gz, 1, none⟩ (.slice A9 rl.length c9)).heap.size _ rl := ((L9.awayNew hab (p := ⟨gz, 0, none⟩) hzl (.string rn)).awayNew hab (p := ⟨gz, 1, none⟩) hzl (.slice A9 rl.length c9)).more (by simp)
              have K9iazpbms := (K9iazpbm.setCell (p := ⟨gz, 0, none⟩) hzk (.string rn)).setCell (p := ⟨gz, 1, none⟩) hzk (.slice A9 rl.length c9)
              obtain ⟨y0, y1, y2, y3⟩ := id z9iazpbm
              go_simp
              clear y0 y1 y2 y3
              refine hK.out _ _ ?_ (fun hHeld => ?_)
              · exact HS.out _ K9iazpbms
              clear hK K
              (try simp only [Act.put]); (try simp only [List.setIfInBounds_toArray]); (try simp only [List.set_cons_succ]); (try simp only [List.set_cons_zero])
              refine take_at (i := 15) (d := some 13) (v := ?_) rfl rfl (by kernel_rfl) (by kernel_rfl) (by kernel_rfl) (fun _ _ _ h => h) (Or.inl ⟨by rfl, ?hyh21⟩) (by assumption) ?resth21
              case hyh21 => (intro w hSw; (try dsimp only at hSw); go_simp; try with_reducible rfl)
              (try simp only [Act.put]); (try simp only [List.setIfInBounds_toArray]); (try simp only [List.set_cons_succ]); (try simp only [List.set_cons_zero])
              refine wpAnyH_done (by kernel_rfl) ?_ _
              go_wp2_with fail
              go_meet
              exact ⟨gz, A9, c9, rfl, rfl, zE, LE, K9iazpbms⟩
          · have kb := grew1 w9i (.cells #[.string mn, .string mv] 45)
            have K9ip := ext_step K9i kb
            have p9ip := At2.new w9i (.string mn) (.string mv) 45
            have hp := apart_new o9i
            have o9ip := o9i.below kb
            generalize hgp : w9i.heap.size = gp at *
            go_simp
            change K _ (w9i.alloc (.cells #[.string mn, .string mv] 45))
            generalize w9i.alloc (.cells #[.string mn, .string mv] 45) = w9ip at *
            clear hgp kb
            refine hK.out _ _ ?_ (fun hHeld => ?_)
            · exact HS.out _ K9ip
            clear hK K
            (try simp only [Act.put]); (try simp only [List.setIfInBounds_toArray]); (try simp only [List.set_cons_succ]); (try simp only [List.set_cons_zero])
            refine wpAnyH_ready (rs := [5, 13]) (by kernel_rfl) (by simp) ?_
            refine AllReadyH.cons rfl (fun K hK => ?_) (AllReadyH.cons rfl (fun K hK => ?_) AllReadyH.nil)
            · have hsb : gb ≤ w9ip.heap.size := Nat.le_of_lt (World.ownsRow.lt o9ip gb rfl).2
              refine step_append_cells2 _ rfl (.tmp 91) (.tmp 93) 22 rfl gb 45 i0 (.agg #[.string ByteArray.empty, .string ByteArray.empty]) 2 32 Tryz.underlying22 hi hz0 hz1 hz2 rfl (by decide) _ 0 [] rfl o9ip A0 x.length c0 (cellsB x) rfl (cellsB_length x) ((HX.out.below (B8.trans (K9ip.mono B8.size))).src fun _ _ => rfl) (cellsB_one x) (by omega) (by omega) hsb ?_
              intro v5 w9ipa hr hgw hob
              obtain ⟨o9ipa, hq⟩ := own_join (hs := x) o9ip hsb hr hgw
              have K9ipa := K9ip.trans (hq.mono (by omega))
              have p9ipa := p9ip.grown hgw hp
              have hp := apart_join hp p9ip.lt hob
              have hsb := Nat.le_trans hsb hq.size
              clear hr hgw hob hq
              refine hK.out _ _ ?_ (fun hHeld => ?_)
              · exact HS.out _ K9ipa
              clear hK K
              (try simp only [Act.put]); (try simp only [List.setIfInBounds_toArray]); (try simp only [List.set_cons_succ]); (try simp only [List.set_cons_zero])
              refine wpAnyH_ready (rs := [8, 13]) (by kernel_rfl) (by simp) ?_
              refine AllReadyH.cons rfl (fun K hK => ?_) (AllReadyH.cons rfl (fun K hK => ?_) AllReadyH.nil)
              · refine step_append_cells2 _ rfl (.tmp 94) (.tmp 96) 22 rfl gb 45 i0 (.agg #[.string ByteArray.empty, .string ByteArray.empty]) 2 32 Tryz.underlying22 hi hz0 hz1 hz2 rfl (by decide) _ x.length (cellsB x) rfl o9ipa (some ⟨gp, 0, none⟩) 1 1 (cellsB [(mn, mv)]) rfl rfl (src_two p9ipa) (cellsB_one _) (by omega) (by omega) hsb ?_
                intro v8 w9ipab hr hgw hob
                obtain ⟨o9ipab, hq⟩ := own_join (hs := [(mn, mv)]) o9ipa hsb hr hgw
                have K9ipab := K9ipa.trans (hq.mono (by omega))
                clear hr hgw hob hq
                refine hK.out _ _ ?_ (fun hHeld => ?_)
                · exact HS.out _ K9ipab
                clear hK K
                (try simp only [Act.put]); (try simp only [List.setIfInBounds_toArray]); (try simp only [List.set_cons_succ]); (try simp only [List.set_cons_zero])
                refine wpAnyH_ready (rs := [9, 13]) (by kernel_rfl) (by simp) ?_
                refine AllReadyH.cons rfl (fun K hK => ?_) (AllReadyH.cons rfl (fun K hK => ?_) AllReadyH.nil)
                · go_simp
                  refine (CM2.out _ _ o9ipab.labs).mono ?_; rintro e9 w9ipabm ⟨v9, rfl, L9, b9, hab⟩
                  obtain ⟨A9, c9, rfl⟩ := L9.len
                  have K9ipabm := ext_step K9ipab b9
                  try go_wp2_with fail
                  refine hK.out _ _ ?_ (fun hHeld => ?_)
                  · exact HS.out _ K9ipabm
                  clear hK K
                  (try simp only [Act.put]); (try simp only [List.setIfInBounds_toArray]); (try simp only [List.set_cons_succ]); (try simp only [List.set_cons_zero])
                  refine take_at (i := 10) (d := some 88) (v := ?_) rfl rfl (by kernel_rfl) (by kernel_rfl) (by kernel_rfl) (fun _ _ _ h => h) (Or.inl ⟨by rfl, ?hyh22⟩) (by assumption) ?resth22
                  case hyh22 => (intro w hSw; (try dsimp only at hSw); go_simp; try with_reducible rfl)
                  (try simp only [Act.put]); (try simp only [List.setIfInBounds_toArray]); (try simp only [List.set_cons_succ]); (try simp only [List.set_cons_zero])
                  refine take_at (i := 11) (d := some 99) (v := ?_) rfl rfl (by kernel_rfl) (by kernel_rfl) (by kernel_rfl) (fun _ _ _ h => h) (Or.inl ⟨by rfl, ?hyh23⟩) (by assumption) ?resth23
                  case hyh23 => (intro w hSw; (try dsimp only at hSw); go_simp; try with_reducible rfl)
                  (try simp only [Act.put]); (try simp only [List.setIfInBounds_toArray]); (try simp only [List.set_cons_succ]); (try simp only [List.set_cons_zero])
                  refine take_at (i := 12) (d := some 100) (v := ?_) rfl rfl (by kernel_rfl) (by kernel_rfl) (by kernel_rfl) (fun _ _ _ h => h) (Or.inl ⟨by rfl, ?hyh24⟩) (by assumption) ?resth24
                  case hyh24 => (intro w hSw; (try dsimp only at hSw); go_simp; try with_reducible rfl)
                  (try simp only [Act.put]); (try simp only [List.setIfInBounds_toArray]); (try simp only [List.set_cons_succ]); (try simp only [List.set_cons_zero])
                  refine wpAnyH_ready (rs := [13]) (by kernel_rfl) (by simp) ?_
                  refine AllReadyH.cons rfl (fun K hK => ?_) AllReadyH.nil
                  have kb := grew1 w9ipabm (.cells #[.string ByteArray.empty, .slice none 0 0] 24)
                  have K9ipabmz := ext_step K9ipabm kb
                  have hzk : w8.heap.size ≤ w9ipabm.heap.size := K9ipabm.size
                  have z9ipabmz := At2.new w9ipabm (.string ByteArray.empty) (.slice none 0 0) 24
                  have L9 := L9.below kb
                  generalize hgz : w9ipabm.heap.size = gz at *
                  go_simp
                  change K _ (w9ipabm.alloc (.cells #[.string ByteArray.empty, .slice none 0 0] 24))
                  generalize w9ipabm.alloc (.cells #[.string ByteArray.empty, .slice none 0 0] 24) = w9ipabmz at *
                  clear hgz kb
                  refine hK.out _ _ ?_ (fun hHeld => ?_)
                  · exact HS.out _ K9ipabmz
                  clear hK K
                  (try simp only [Act.put]); (try simp only [List.setIfInBounds_toArray]); (try simp only [List.set_cons_succ]); (try simp only [List.set_cons_zero])
                  refine wpAnyH_ready (rs := [14]) (by kernel_rfl) (by simp) ?_
                  refine AllReadyH.cons rfl (fun K hK => ?_) AllReadyH.nil
                  have zE := (z9ipabmz.set0 (.string rn)).set1 (.slice A9 rl.length c9)
                  have LE := ((L9.below ((Below.refl gz _).setCell (p := ⟨gz, 0, none⟩) (Nat.le_refl _) (.string rn))).below ((Below.refl gz _).setCell (p := ⟨gz, 1, none⟩) (Nat.le_refl _) (.slice A9 rl.length c9))).more (show gz ≤ ((w9ipabmz.setCell ⟨gz, 0, none⟩ (.string rn)).setCell ⟨gz, 1, none⟩ (.slice A9 rl.length c9)).heap.size by have := z9ipabmz.lt; simp; omega)
                  have K9ipabmzs := (K9ipabmz.setCell (p := ⟨gz, 0, none⟩) hzk (.string rn)).setCell (p := ⟨gz, 1, none⟩) hzk (.slice A9 rl.length c9)
                  obtain ⟨y0, y1, y2, y3⟩ := id z9ipabmz
                  go_simp
                  clear y0 y1 y2 y3
                  refine hK.out _ _ ?_ (fun hHeld => ?_)
                  · exact HS.out _ K9ipabmzs
                  clear hK K
                  (try simp only [Act.put]); (try simp only [List.setIfInBounds_toArray]); (try simp only [List.set_cons_succ]); (try simp only [List.set_cons_zero])
                  refine take_at (i := 15) (d := some 13) (v := ?_) rfl rfl (by kernel_rfl) (by kernel_rfl) (by kernel_rfl) (fun _ _ _ h => h) (Or.inl ⟨by rfl, ?hyh25⟩) (by assumption) ?resth25
                  case hyh25 => (intro w hSw; (try dsimp only at hSw); go_simp; try with_reducible rfl)
                  (try simp only [Act.put]); (try simp only [List.setIfInBounds_toArray]); (try simp only [List.set_cons_succ]); (try simp only [List.set_cons_zero])
                  refine wpAnyH_done (by kernel_rfl) ?_ _
                  go_wp2_with fail
                  go_meet
                  exact ⟨gz, A9, c9, rfl, rfl, zE, LE, K9ipabmzs⟩
                · have kb := grew1 w9ipab (.cells #[.string ByteArray.empty, .slice none 0 0] 24)
                  have K9ipabz := ext_step K9ipab kb
                  have hzk : w8.heap.size ≤ w9ipab.heap.size := K9ipab.size
                  have z9ipabz := At2.new w9ipab (.string ByteArray.empty) (.slice none 0 0) 24
                  have hz := apart_new o9ipab
                  have o9ipabz := o9ipab.below kb
                  generalize hgz : w9ipab.heap.size = gz at *
                  go_simp
                  change K _ (w9ipab.alloc (.cells #[.string ByteArray.empty, .slice none 0 0] 24))
                  generalize w9ipab.alloc (.cells #[.string ByteArray.empty, .slice none 0 0] 24) = w9ipabz at *
                  clear hgz kb
                  refine hK.out _ _ ?_ (fun hHeld => ?_)
                  · exact HS.out _ K9ipabz
                  clear hK K
                  (try simp only [Act.put]); (try simp only [List.setIfInBounds_toArray]); (try simp only [List.set_cons_succ]); (try simp only [List.set_cons_zero])
                  refine wpAnyH_ready (rs := [9]) (by kernel_rfl) (by simp) ?_
                  refine AllReadyH.cons rfl (fun K hK => ?_) AllReadyH.nil
                  go_simp
                  refine (CM2.out _ _ o9ipabz.labs).mono ?_; rintro e9 w9ipabzm ⟨v9, rfl, L9, b9, hab⟩
                  obtain ⟨A9, c9, rfl⟩ := L9.len
                  have K9ipabzm := ext_step K9ipabz b9
                  have hzl := z9ipabz.lt
                  have z9ipabzm := z9ipabz.below b9
                  try go_wp2_with fail
                  refine hK.out _ _ ?_ (fun hHeld => ?_)
                  · exact HS.out _ K9ipabzm
                  clear hK K
                  (try simp only [Act.put]); (try simp only [List.setIfInBounds_toArray]); (try simp only [List.set_cons_succ]); (try simp only [List.set_cons_zero])
                  refine take_at (i := 10) (d := some 88) (v := ?_) rfl rfl (by kernel_rfl) (by kernel_rfl) (by kernel_rfl) (fun _ _ _ h => h) (Or.inl ⟨by rfl, ?hyh26⟩) (by assumption) ?resth26
                  case hyh26 => (intro w hSw; (try dsimp only at hSw); go_simp; try with_reducible rfl)
                  (try simp only [Act.put]); (try simp only [List.setIfInBounds_toArray]); (try simp only [List.set_cons_succ]); (try simp only [List.set_cons_zero])
                  refine take_at (i := 11) (d := some 99) (v := ?_) rfl rfl (by kernel_rfl) (by kernel_rfl) (by kernel_rfl) (fun _ _ _ h => h) (Or.inl ⟨by rfl, ?hyh27⟩) (by assumption) ?resth27
                  case hyh27 => (intro w hSw; (try dsimp only at hSw); go_simp; try with_reducible rfl)
                  (try simp only [Act.put]); (try simp only [List.setIfInBounds_toArray]); (try simp only [List.set_cons_succ]); (try simp only [List.set_cons_zero])
                  refine take_at (i := 12) (d := some 100) (v := ?_) rfl rfl (by kernel_rfl) (by kernel_rfl) (by kernel_rfl) (fun _ _ _ h => h) (Or.inl ⟨by rfl, ?hyh28⟩) (by assumption) ?resth28
                  case hyh28 => (intro w hSw; (try dsimp only at hSw); go_simp; try with_reducible rfl)
                  (try simp only [Act.put]); (try simp only [List.setIfInBounds_toArray]); (try simp only [List.set_cons_succ]); (try simp only [List.set_cons_zero])
                  refine wpAnyH_ready (rs := [14]) (by kernel_rfl) (by simp) ?_
                  refine AllReadyH.cons rfl (fun K hK => ?_) AllReadyH.nil
                  have zE := (z9ipabzm.set0 (.string rn)).set1 (.slice A9 rl.length c9)
                  have LE : Labs _ ((w9ipabzm.setCell ⟨gz, 0, none⟩ (.string rn)).setCell ⟨gz, 1, none⟩ (.slice A9 rl.length c9)).heap.size _ rl := ((L9.awayNew hab (p := ⟨gz, 0, none⟩) hzl (.string rn)).awayNew hab (p := ⟨gz, 1, none⟩) hzl (.slice A9 rl.length c9)).more (by simp)
                  have K9ipabzms := (K9ipabzm.setCell (p := ⟨gz, 0, none⟩) hzk (.string rn)).setCell (p := ⟨gz, 1, none⟩) hzk (.slice A9 rl.length c9)
                  obtain ⟨y0, y1, y2, y3⟩ := id z9ipabzm
                  go_simp
                  clear y0 y1 y2 y3
                  refine hK.out _ _ ?_ (fun hHeld => ?_)
                  · exact HS.out _ K9ipabzms
                  clear hK K
                  (try simp only [Act.put]); (try simp only [List.setIfInBounds_toArray]); (try simp only [List.set_cons_succ]); (try simp only [List.set_cons_zero])
                  refine take_at (i := 15) (d := some 13) (v := ?_) rfl rfl (by kernel_rfl) (by kernel_rfl) (by kernel_rfl) (fun _ _ _ h => h) (Or.inl ⟨by rfl, ?hyh29⟩) (by assumption) ?resth29
                  case hyh29 => (intro w hSw; (try dsimp only at hSw); go_simp; try with_reducible rfl)
                  (try simp only [Act.put]); (try simp only [List.setIfInBounds_toArray]); (try simp only [List.set_cons_succ]); (try simp only [List.set_cons_zero])
                  refine wpAnyH_done (by kernel_rfl) ?_ _
                  go_wp2_with fail
                  go_meet
                  exact ⟨gz, A9, c9, rfl, rfl, zE, LE, K9ipabzms⟩
              · have kb := grew1 w9ipa (.cells #[.string ByteArray.empty, .slice none 0 0] 24)
                have K9ipaz := ext_step K9ipa kb
                have hzk : w8.heap.size ≤ w9ipa.heap.size := K9ipa.size
                have z9ipaz := At2.new w9ipa (.string ByteArray.empty) (.slice none 0 0) 24
                have hz := apart_new o9ipa
                have p9ipaz := p9ipa.below kb
                have o9ipaz := o9ipa.below kb
                have hsb := Nat.le_trans hsb kb.size
                generalize hgz : w9ipa.heap.size = gz at *
                go_simp
                change K _ (w9ipa.alloc (.cells #[.string ByteArray.empty, .slice none 0 0] 24))
                generalize w9ipa.alloc (.cells #[.string ByteArray.empty, .slice none 0 0] 24) = w9ipaz at *
                clear hgz kb
                refine hK.out _ _ ?_ (fun hHeld => ?_)
                · exact HS.out _ K9ipaz
                clear hK K
                (try simp only [Act.put]); (try simp only [List.setIfInBounds_toArray]); (try simp only [List.set_cons_succ]); (try simp only [List.set_cons_zero])
                refine wpAnyH_ready (rs := [8]) (by kernel_rfl) (by simp) ?_
                refine AllReadyH.cons rfl (fun K hK => ?_) AllReadyH.nil
                refine step_append_cells2 _ rfl (.tmp 94) (.tmp 96) 22 rfl gb 45 i0 (.agg #[.string ByteArray.empty, .string ByteArray.empty]) 2 32 Tryz.underlying22 hi hz0 hz1 hz2 rfl (by decide) _ x.length (cellsB x) rfl o9ipaz (some ⟨gp, 0, none⟩) 1 1 (cellsB [(mn, mv)]) rfl rfl (src_two p9ipaz) (cellsB_one _) (by omega) (by omega) hsb ?_
                intro v8 w9ipazb hr hgw hob
                obtain ⟨o9ipazb, hq⟩ := own_join (hs := [(mn, mv)]) o9ipaz hsb hr hgw
                have K9ipazb := K9ipaz.trans (hq.mono (by omega))
                have z9ipazb := z9ipaz.grown hgw hz
                have hz := apart_join hz z9ipaz.lt hob
                clear hr hgw hob hq
                refine hK.out _ _ ?_ (fun hHeld => ?_)
                · exact HS.out _ K9ipazb
                clear hK K
                (try simp only [Act.put]); (try simp only [List.setIfInBounds_toArray]); (try simp only [List.set_cons_succ]); (try simp only [List.set_cons_zero])
                refine wpAnyH_ready (rs := [9]) (by kernel_rfl) (by simp) ?_
                refine AllReadyH.cons rfl (fun K hK => ?_) AllReadyH.nil
                go_simp
                refine (CM2.out _ _ o9ipazb.labs).mono ?_; rintro e9 w9ipazbm ⟨v9, rfl, L9, b9, hab⟩
                obtain ⟨A9, c9, rfl⟩ := L9.len
                have K9ipazbm := ext_step K9ipazb b9
                have hzl := z9ipazb.lt
                have z9ipazbm := z9ipazb.below b9
                try go_wp2_with fail
                refine hK.out _ _ ?_ (fun hHeld => ?_)
                · exact HS.out _ K9ipazbm
                clear hK K
                (try simp only [Act.put]); (try simp only [List.setIfInBounds_toArray]); (try simp only [List.set_cons_succ]); (try simp only [List.set_cons_zero])
                refine take_at (i := 10) (d := some 88) (v := ?_) rfl rfl (by kernel_rfl) (by kernel_rfl) (by kernel_rfl) (fun _ _ _ h => h) (Or.inl ⟨by rfl, ?hyh30⟩) (by assumption) ?resth30
                case hyh30 => (intro w hSw; (try dsimp only at hSw); go_simp; try with_reducible rfl)
                (try simp only [Act.put]); (try simp only [List.setIfInBounds_toArray]); (try simp only [List.set_cons_succ]); (try simp only [List.set_cons_zero])
                refine take_at (i := 11) (d := some 99) (v := ?_) rfl rfl (by kernel_rfl) (by kernel_rfl) (by kernel_rfl) (fun _ _ _ h => h) (Or.inl ⟨by rfl, ?hyh31⟩) (by assumption) ?resth31
                case hyh31 => (intro w hSw; (try dsimp only at hSw); go_simp; try with_reducible rfl)
                (try simp only [Act.put]); (try simp only [List.setIfInBounds_toArray]); (try simp only [List.set_cons_succ]); (try simp only [List.set_cons_zero])
                refine take_at (i := 12) (d := some 100) (v := ?_) rfl rfl (by kernel_rfl) (by kernel_rfl) (by kernel_rfl) (fun _ _ _ h => h) (Or.inl ⟨by rfl, ?hyh32⟩) (by assumption) ?resth32
                case hyh32 => (intro w hSw; (try dsimp only at hSw); go_simp; try with_reducible rfl)
                (try simp only [Act.put]); (try simp only [List.setIfInBounds_toArray]); (try simp only [List.set_cons_succ]); (try simp only [List.set_cons_zero])
                refine wpAnyH_ready (rs := [14]) (by kernel_rfl) (by simp) ?_
                refine AllReadyH.cons rfl (fun K hK => ?_) AllReadyH.nil
                have zE := (z9ipazbm.set0 (.string rn)).set1 (.slice A9 rl.length c9)
                have LE : Labs _ ((w9ipazbm.setCell ⟨gz, 0, none⟩ (.string rn)).setCell ⟨gz, 1, none⟩ (.slice A9 rl.length c9)).heap.size _ rl := ((L9.awayNew hab (p := ⟨gz, 0, none⟩) hzl (.string rn)).awayNew hab (p := ⟨gz, 1, none⟩) hzl (.slice A9 rl.length c9)).more (by simp)
                have K9ipazbms := (K9ipazbm.setCell (p := ⟨gz, 0, none⟩) hzk (.string rn)).setCell (p := ⟨gz, 1, none⟩) hzk (.slice A9 rl.length c9)
                obtain ⟨y0, y1, y2, y3⟩ := id z9ipazbm
                go_simp
                clear y0 y1 y2 y3
                refine hK.out _ _ ?_ (fun hHeld => ?_)
                · exact HS.out _ K9ipazbms
                clear hK K
                (try simp only [Act.put]); (try simp only [List.setIfInBounds_toArray]); (try simp only [List.set_cons_succ]); (try simp only [List.set_cons_zero])
                refine take_at (i := 15) (d := some 13) (v := ?_) rfl rfl (by kernel_rfl) (by kernel_rfl) (by kernel_rfl) (fun _ _ _ h => h) (Or.inl ⟨by rfl, ?hyh33⟩) (by assumption) ?resth33
                case hyh33 => (intro w hSw; (try dsimp only at hSw); go_simp; try with_reducible rfl)
                (try simp only [Act.put]); (try simp only [List.setIfInBounds_toArray]); (try simp only [List.set_cons_succ]); (try simp only [List.set_cons_zero])
                refine wpAnyH_done (by kernel_rfl) ?_ _
                go_wp2_with fail
                go_meet
                exact ⟨gz, A9, c9, rfl, rfl, zE, LE, K9ipazbms⟩
            · have kb := grew1 w9ip (.cells #[.string ByteArray.empty, .slice none 0 0] 24)
              have K9ipz := ext_step K9ip kb
              have hzk : w8.heap.size ≤ w9ip.heap.size := K9ip.size
              have z9ipz := At2.new w9ip (.string ByteArray.empty) (.slice none 0 0) 24
              have hz := apart_new o9ip
              have p9ipz := p9ip.below kb
              have o9ipz := o9ip.below kb
              generalize hgz : w9ip.heap.size = gz at *
              go_simp
              change K _ (w9ip.alloc (.cells #[.string ByteArray.empty, .slice none 0 0] 24))
              generalize w9ip.alloc (.cells #[.string ByteArray.empty, .slice none 0 0] 24) = w9ipz at *
              clear hgz kb
              refine hK.out _ _ ?_ (fun hHeld => ?_)
              · exact HS.out _ K9ipz
              clear hK K
              (try simp only [Act.put]); (try simp only [List.setIfInBounds_toArray]); (try simp only [List.set_cons_succ]); (try simp only [List.set_cons_zero])
              refine wpAnyH_ready (rs := [5]) (by kernel_rfl) (by simp) ?_
              refine AllReadyH.cons rfl (fun K hK => ?_) AllReadyH.nil
              have hsb : gb ≤ w9ipz.heap.size := Nat.le_of_lt (World.ownsRow.lt o9ipz gb rfl).2
              refine step_append_cells2 _ rfl (.tmp 91) (.tmp 93) 22 rfl gb 45 i0 (.agg #[.string ByteArray.empty, .string ByteArray.empty]) 2 32 Tryz.underlying22 hi hz0 hz1 hz2 rfl (by decide) _ 0 [] rfl o9ipz A0 x.length c0 (cellsB x) rfl (cellsB_length x) ((HX.out.below (B8.trans (K9ipz.mono B8.size))).src fun _ _ => rfl) (cellsB_one x) (by omega) (by omega) hsb ?_
              intro v5 w9ipza hr hgw hob
              obtain ⟨o9ipza, hq⟩ := own_join (hs := x) o9ipz hsb hr hgw
              have K9ipza := K9ipz.trans (hq.mono (by omega))
              have z9ipza := z9ipz.grown hgw hz
              have hz := apart_join hz z9ipz.lt hob
              have p9ipza := p9ipz.grown hgw hp
              have hp := apart_join hp p9ipz.lt hob
              have hsb := Nat.le_trans hsb hq.size
              clear hr hgw hob hq
              refine hK.out _ _ ?_ (fun hHeld => ?_)
              · exact HS.out _ K9ipza
              clear hK K
              (try simp only [Act.put]); (try simp only [List.setIfInBounds_toArray]); (try simp only [List.set_cons_succ]); (try simp only [List.set_cons_zero])
              refine wpAnyH_ready (rs := [8]) (by kernel_rfl) (by simp) ?_
              refine AllReadyH.cons rfl (fun K hK => ?_) AllReadyH.nil
              refine step_append_cells2 _ rfl (.tmp 94) (.tmp 96) 22 rfl gb 45 i0 (.agg #[.string ByteArray.empty, .string ByteArray.empty]) 2 32 Tryz.underlying22 hi hz0 hz1 hz2 rfl (by decide) _ x.length (cellsB x) rfl o9ipza (some ⟨gp, 0, none⟩) 1 1 (cellsB [(mn, mv)]) rfl rfl (src_two p9ipza) (cellsB_one _) (by omega) (by omega) hsb ?_
              intro v8 w9ipzab hr hgw hob
              obtain ⟨o9ipzab, hq⟩ := own_join (hs := [(mn, mv)]) o9ipza hsb hr hgw
              have K9ipzab := K9ipza.trans (hq.mono (by omega))
              have z9ipzab := z9ipza.grown hgw hz
              have hz := apart_join hz z9ipza.lt hob
              clear hr hgw hob hq
              refine hK.out _ _ ?_ (fun hHeld => ?_)
              · exact HS.out _ K9ipzab
              clear hK K
              (try simp only [Act.put]); (try simp only [List.setIfInBounds_toArray]); (try simp only [List.set_cons_succ]); (try simp only [List.set_cons_zero])
              refine wpAnyH_ready (rs := [9]) (by kernel_rfl) (by simp) ?_
              refine AllReadyH.cons rfl (fun K hK => ?_) AllReadyH.nil
              go_simp
              refine (CM2.out _ _ o9ipzab.labs).mono ?_; rintro e9 w9ipzabm ⟨v9, rfl, L9, b9, hab⟩
              obtain ⟨A9, c9, rfl⟩ := L9.len
              have K9ipzabm := ext_step K9ipzab b9
              have hzl := z9ipzab.lt
              have z9ipzabm := z9ipzab.below b9
              try go_wp2_with fail
              refine hK.out _ _ ?_ (fun hHeld => ?_)
              · exact HS.out _ K9ipzabm
              clear hK K
              (try simp only [Act.put]); (try simp only [List.setIfInBounds_toArray]); (try simp only [List.set_cons_succ]); (try simp only [List.set_cons_zero])
              refine take_at (i := 10) (d := some 88) (v := ?_) rfl rfl (by kernel_rfl) (by kernel_rfl) (by kernel_rfl) (fun _ _ _ h => h) (Or.inl ⟨by rfl, ?hyh34⟩) (by assumption) ?resth34
              case hyh34 => (intro w hSw; (try dsimp only at hSw); go_simp; try with_reducible rfl)
              (try simp only [Act.put]); (try simp only [List.setIfInBounds_toArray]); (try simp only [List.set_cons_succ]); (try simp only [List.set_cons_zero])
              refine take_at (i := 11) (d := some 99) (v := ?_) rfl rfl (by kernel_rfl) (by kernel_rfl) (by kernel_rfl) (fun _ _ _ h => h) (Or.inl ⟨by rfl, ?hyh35⟩) (by assumption) ?resth35
              case hyh35 => (intro w hSw; (try dsimp only at hSw); go_simp; try with_reducible rfl)
              (try simp only [Act.put]); (try simp only [List.setIfInBounds_toArray]); (try simp only [List.set_cons_succ]); (try simp only [List.set_cons_zero])
              refine take_at (i := 12) (d := some 100) (v := ?_) rfl rfl (by kernel_rfl) (by kernel_rfl) (by kernel_rfl) (fun _ _ _ h => h) (Or.inl ⟨by rfl, ?hyh36⟩) (by assumption) ?resth36
              case hyh36 => (intro w hSw; (try dsimp only at hSw); go_simp; try with_reducible rfl)
              (try simp only [Act.put]); (try simp only [List.setIfInBounds_toArray]); (try simp only [List.set_cons_succ]); (try simp only [List.set_cons_zero])
              refine wpAnyH_ready (rs := [14]) (by kernel_rfl) (by simp) ?_
              refine AllReadyH.cons rfl (fun K hK => ?_) AllReadyH.nil
              have zE := (z9ipzabm.set0 (.string rn)).set1 (.slice A9 rl.length c9)
              have LE : Labs _ ((w9ipzabm.setCell ⟨gz, 0, none⟩ (.string rn)).setCell ⟨gz, 1, none⟩ (.slice A9 rl.length c9)).heap.size _ rl := ((L9.awayNew hab (p := ⟨gz, 0, none⟩) hzl (.string rn)).awayNew hab (p := ⟨gz, 1, none⟩) hzl (.slice A9 rl.length c9)).more (by simp)
              have K9ipzabms := (K9ipzabm.setCell (p := ⟨gz, 0, none⟩) hzk (.string rn)).setCell (p := ⟨gz, 1, none⟩) hzk (.slice A9 rl.length c9)
              obtain ⟨y0, y1, y2, y3⟩ := id z9ipzabm
              go_simp
              clear y0 y1 y2 y3
              refine hK.out _ _ ?_ (fun hHeld => ?_)
              · exact HS.out _ K9ipzabms
              clear hK K
              (try simp only [Act.put]); (try simp only [List.setIfInBounds_toArray]); (try simp only [List.set_cons_succ]); (try simp only [List.set_cons_zero])
              refine take_at (i := 15) (d := some 13) (v := ?_) rfl rfl (by kernel_rfl) (by kernel_rfl) (by kernel_rfl) (fun _ _ _ h => h) (Or.inl ⟨by rfl, ?hyh37⟩) (by assumption) ?resth37
              case hyh37 => (intro w hSw; (try dsimp only at hSw); go_simp; try with_reducible rfl)
              (try simp only [Act.put]); (try simp only [List.setIfInBounds_toArray]); (try simp only [List.set_cons_succ]); (try simp only [List.set_cons_zero])
              refine wpAnyH_done (by kernel_rfl) ?_ _
              go_wp2_with fail
              go_meet
              exact ⟨gz, A9, c9, rfl, rfl, zE, LE, K9ipzabms⟩
          · have kb := grew1 w9i (.cells #[.string ByteArray.empty, .slice none 0 0] 24)
            have K9iz := ext_step K9i kb
            have hzk : w8.heap.size ≤ w9i.heap.size := K9i.size
            have z9iz := At2.new w9i (.string ByteArray.empty) (.slice none 0 0) 24
            have hz := apart_new o9i
            have o9iz := o9i.below kb
            generalize hgz : w9i.heap.size = gz at *
            go_simp
            change K _ (w9i.alloc (.cells #[.string ByteArray.empty, .slice none 0 0] 24))
            generalize w9i.alloc (.cells #[.string ByteArray.empty, .slice none 0 0] 24) = w9iz at *
            clear hgz kb
            refine hK.out _ _ ?_ (fun hHeld => ?_)
            · exact HS.out _ K9iz
            clear hK K
            (try simp only [Act.put]); (try simp only [List.setIfInBounds_toArray]); (try simp only [List.set_cons_succ]); (try simp only [List.set_cons_zero])
            refine wpAnyH_ready (rs := [5, 7]) (by kernel_rfl) (by simp) ?_
            refine AllReadyH.cons rfl (fun K hK => ?_) (AllReadyH.cons rfl (fun K hK => ?_) AllReadyH.nil)
            · have hsb : gb ≤ w9iz.heap.size := Nat.le_of_lt (World.ownsRow.lt o9iz gb rfl).2
              refine step_append_cells2 _ rfl (.tmp 91) (.tmp 93) 22 rfl gb 45 i0 (.agg #[.string ByteArray.empty, .string ByteArray.empty]) 2 32 Tryz.underlying22 hi hz0 hz1 hz2 rfl (by decide) _ 0 [] rfl o9iz A0 x.length c0 (cellsB x) rfl (cellsB_length x) ((HX.out.below (B8.trans (K9iz.mono B8.size))).src fun _ _ => rfl) (cellsB_one x) (by omega) (by omega) hsb ?_
              intro v5 w9iza hr hgw hob
              obtain ⟨o9iza, hq⟩ := own_join (hs := x) o9iz hsb hr hgw
              have K9iza := K9iz.trans (hq.mono (by omega))
              have z9iza := z9iz.grown hgw hz
              have hz := apart_join hz z9iz.lt hob
              have hsb := Nat.le_trans hsb hq.size
              clear hr hgw hob hq
              refine hK.out _ _ ?_ (fun hHeld => ?_)
              · exact HS.out _ K9iza
              clear hK K
              (try simp only [Act.put]); (try simp only [List.setIfInBounds_toArray]); (try simp only [List.set_cons_succ]); (try simp only [List.set_cons_zero])
              refine wpAnyH_ready (rs := [7]) (by kernel_rfl) (by simp) ?_
              refine AllReadyH.cons rfl (fun K hK => ?_) AllReadyH.nil
              have kb := grew1 w9iza (.cells #[.string mn, .string mv] 45)
              have K9izap := ext_step K9iza kb
              have p9izap := At2.new w9iza (.string mn) (.string mv) 45
              have hp := apart_new o9iza
              have z9izap := z9iza.below kb
              have o9izap := o9iza.below kb
              have hsb := Nat.le_trans hsb kb.size
              generalize hgp : w9iza.heap.size = gp at *
              go_simp
              change K _ (w9iza.alloc (.cells #[.string mn, .string mv] 45))
              generalize w9iza.alloc (.cells #[.string mn, .string mv] 45) = w9izap at *
              clear hgp kb
              refine hK.out _ _ ?_ (fun hHeld => ?_)
              · exact HS.out _ K9izap
              clear hK K
              (try simp only [Act.put]); (try simp only [List.setIfInBounds_toArray]); (try simp only [List.set_cons_succ]); (try simp only [List.set_cons_zero])
              refine wpAnyH_ready (rs := [8]) (by kernel_rfl) (by simp) ?_
              refine AllReadyH.cons rfl (fun K hK => ?_) AllReadyH.nil
              refine step_append_cells2 _ rfl (.tmp 94) (.tmp 96) 22 rfl gb 45 i0 (.agg #[.string ByteArray.empty, .string ByteArray.empty]) 2 32 Tryz.underlying22 hi hz0 hz1 hz2 rfl (by decide) _ x.length (cellsB x) rfl o9izap (some ⟨gp, 0, none⟩) 1 1 (cellsB [(mn, mv)]) rfl rfl (src_two p9izap) (cellsB_one _) (by omega) (by omega) hsb ?_
              intro v8 w9izapb hr hgw hob
              obtain ⟨o9izapb, hq⟩ := own_join (hs := [(mn, mv)]) o9izap hsb hr hgw
              have K9izapb := K9izap.trans (hq.mono (by omega))
              have z9izapb := z9izap.grown hgw hz
              have hz := apart_join hz z9izap.lt hob
              clear hr hgw hob hq
              refine hK.out _ _ ?_ (fun hHeld => ?_)
              · exact HS.out _ K9izapb
              clear hK K
              (try simp only [Act.put]); (try simp only [List.setIfInBounds_toArray]); (try simp only [List.set_cons_succ]); (try simp only [List.set_cons_zero])
              refine wpAnyH_ready (rs := [9]) (by kernel_rfl) (by simp) ?_
              refine AllReadyH.cons rfl (fun K hK => ?_) AllReadyH.nil
              go_simp
              refine (CM2.out _ _ o9izapb.labs).mono ?_; rintro e9 w9izapbm ⟨v9, rfl, L9, b9, hab⟩
              obtain ⟨A9, c9, rfl⟩ := L9.len
              have K9izapbm := ext_step K9izapb b9
              have hzl := z9izapb.lt
              have z9izapbm := z9izapb.below b9
              try go_wp2_with fail
              refine hK.out _ _ ?_ (fun hHeld => ?_)
              · exact HS.out _ K9izapbm
              clear hK K
              (try simp only [Act.put]); (try simp only [List.setIfInBounds_toArray]); (try simp only [List.set_cons_succ]); (try simp only [List.set_cons_zero])
              refine take_at (i := 10) (d := some 88) (v := ?_) rfl rfl (by kernel_rfl) (by kernel_rfl) (by kernel_rfl) (fun _ _ _ h => h) (Or.inl ⟨by rfl, ?hyh38⟩) (by assumption) ?resth38
              case hyh38 => (intro w hSw; (try dsimp only at hSw); go_simp; try with_reducible rfl)
              (try simp only [Act.put]); (try simp only [List.setIfInBounds_toArray]); (try simp only [List.set_cons_succ]); (try simp only [List.set_cons_zero])
              refine take_at (i := 11) (d := some 99) (v := ?_) rfl rfl (by kernel_rfl) (by kernel_rfl) (by kernel_rfl) (fun _ _ _ h => h) (Or.inl ⟨by rfl, ?hyh39⟩) (by assumption) ?resth39
              case hyh39 => (intro w hSw; (try dsimp only at hSw); go_simp; try with_reducible rfl)
              (try simp only [Act.put]); (try simp only [List.setIfInBounds_toArray]); (try simp only [List.set_cons_succ]); (try simp only [List.set_cons_zero])
              refine take_at (i := 12) (d := some 100) (v := ?_) rfl rfl (by kernel_rfl) (by kernel_rfl) (by kernel_rfl) (fun _ _ _ h => h) (Or.inl ⟨by rfl, ?hyh40⟩) (by assumption) ?resth40
              case hyh40 => (intro w hSw; (try dsimp only at hSw); go_simp; try with_reducible rfl)
              (try simp only [Act.put]); (try simp only [List.setIfInBounds_toArray]); (try simp only [List.set_cons_succ]); (try simp only [List.set_cons_zero])
              refine wpAnyH_ready (rs := [14]) (by kernel_rfl) (by simp) ?_
              refine AllReadyH.cons rfl (fun K hK => ?_) AllReadyH.nil
              have zE := (z9izapbm.set0 (.string rn)).set1 (.slice A9 rl.length c9)
              have LE : Labs _ ((w9izapbm.setCell ⟨gz, 0, none⟩ (.string rn)).setCell ⟨gz, 1, none⟩ (.slice A9 rl.length c9)).heap.size _ rl := ((L9.awayNew hab (p := ⟨gz, 0, none⟩) hzl (.string rn)).awayNew hab (p := ⟨gz, 1, none⟩) hzl (.slice A9 rl.length c9)).more (by simp)
              have K9izapbms := (K9izapbm.setCell (p := ⟨gz, 0, none⟩) hzk (.string rn)).setCell (p := ⟨gz, 1, none⟩) hzk (.slice A9 rl.length c9)
              obtain ⟨y0, y1, y2, y3⟩ := id z9izapbm
              go_simp
              clear y0 y1 y2 y3
              refine hK.out _ _ ?_ (fun hHeld => ?_)
              · exact HS.out _ K9izapbms
              clear hK K
              (try simp only [Act.put]); (try simp only [List.setIfInBounds_toArray]); (try simp only [List.set_cons_succ]); (try simp only [List.set_cons_zero])
              refine take_at (i := 15) (d := some 13) (v := ?_) rfl rfl (by kernel_rfl) (by kernel_rfl) (by kernel_rfl) (fun _ _ _ h => h) (Or.inl ⟨by rfl, ?hyh41⟩) (by assumption) ?resth41
              case hyh41 => (intro w hSw; (try dsimp only at hSw); go_simp; try with_reducible rfl)
              (try simp only [Act.put]); (try simp only [List.setIfInBounds_toArray]); (try simp only [List.set_cons_succ]); (try simp only [List.set_cons_zero])
              refine wpAnyH_done (by kernel_rfl) ?_ _
              go_wp2_with fail
              go_meet
              exact ⟨gz, A9, c9, rfl, rfl, zE, LE, K9izapbms⟩
            · have kb := grew1 w9iz (.cells #[.string mn, .string mv] 45)
              have K9izp := ext_step K9iz kb
              have p9izp := At2.new w9iz (.string mn) (.string mv) 45
              have hp := apart_new o9iz
              have z9izp := z9iz.below kb
              have o9izp := o9iz.below kb
              generalize hgp : w9iz.heap.size = gp at *
              go_simp
              change K _ (w9iz.alloc (.cells #[.string mn, .string mv] 45))
              generalize w9iz.alloc (.cells #[.string mn, .string mv] 45) = w9izp at *
              clear hgp kb
              refine hK.out _ _ ?_ (fun hHeld => ?_)
              · exact HS.out _ K9izp
              clear hK K
              (try simp only [Act.put]); (try simp only [List.setIfInBounds_toArray]); (try simp only [List.set_cons_succ]); (try simp only [List.set_cons_zero])
              refine wpAnyH_ready (rs := [5]) (by kernel_rfl) (by simp) ?_
              refine AllReadyH.cons rfl (fun K hK => ?_) AllReadyH.nil
              have hsb : gb ≤ w9izp.heap.size := Nat.le_of_lt (World.ownsRow.lt o9izp gb rfl).2
              refine step_append_cells2 _ rfl (.tmp 91) (.tmp 93) 22 rfl gb 45 i0 (.agg #[.string ByteArray.empty, .string ByteArray.empty]) 2 32 Tryz.underlying22 hi hz0 hz1 hz2 rfl (by decide) _ 0 [] rfl o9izp A0 x.length c0 (cellsB x) rfl (cellsB_length x) ((HX.out.below (B8.trans (K9izp.mono B8.size))).src fun _ _ => rfl) (cellsB_one x) (by omega) (by omega) hsb ?_
              intro v5 w9izpa hr hgw hob
              obtain ⟨o9izpa, hq⟩ := own_join (hs := x) o9izp hsb hr hgw
              have K9izpa := K9izp.trans (hq.mono (by omega))
              have z9izpa := z9izp.grown hgw hz
              have hz := apart_join hz z9izp.lt hob
              have p9izpa := p9izp.grown hgw hp
              have hp := apart_join hp p9izp.lt hob
              have hsb := Nat.le_trans hsb hq.size
              clear hr hgw hob hq
              refine hK.out _ _ ?_ (fun hHeld => ?_)
              · exact HS.out _ K9izpa
              clear hK K
              (try simp only [Act.put]); (try simp only [List.setIfInBounds_toArray]); (try simp only [List.set_cons_succ]); (try simp only [List.set_cons_zero])
              refine wpAnyH_ready (rs := [8]) (by kernel_rfl) (by simp) ?_
              refine AllReadyH.cons rfl (fun K hK => ?_) AllReadyH.nil
              refine step_append_cells2 _ rfl (.tmp 94) (.tmp 96) 22 rfl gb 45 i0 (.agg #[.string ByteArray.empty, .string ByteArray.empty]) 2 32 Tryz.underlying22 hi hz0 hz1 hz2 rfl (by decide) _ x.length (cellsB x) rfl o9izpa (some ⟨gp, 0, none⟩) 1 1 (cellsB [(mn, mv)]) rfl rfl (src_two p9izpa) (cellsB_one _) (by omega) (by omega) hsb ?_
              intro v8 w9izpab hr hgw hob
              obtain ⟨o9izpab, hq⟩ := own_join (hs := [(mn, mv)]) o9izpa hsb hr hgw
              have K9izpab := K9izpa.trans (hq.mono (by omega))
              have z9izpab := z9izpa.grown hgw hz
              have hz := apart_join hz z9izpa.lt hob
              clear hr hgw hob hq
              refine hK.out _ _ ?_ (fun hHeld => ?_)
              · exact HS.out _ K9izpab
              clear hK K
              (try simp only [Act.put]); (try simp only [List.setIfInBounds_toArray]); (try simp only [List.set_cons_succ]); (try simp only [List.set_cons_zero])
              refine wpAnyH_ready (rs := [9]) (by kernel_rfl) (by simp) ?_
              refine AllReadyH.cons rfl (fun K hK => ?_) AllReadyH.nil
              go_simp
              refine (CM2.out _ _ o9izpab.labs).mono ?_; rintro e9 w9izpabm ⟨v9, rfl, L9, b9, hab⟩
              obtain ⟨A9, c9, rfl⟩ := L9.len
              have K9izpabm := ext_step K9izpab b9
              have hzl := z9izpab.lt
              have z9izpabm := z9izpab.below b9
              try go_wp2_with fail
              refine hK.out _ _ ?_ (fun hHeld => ?_)
              · exact HS.out _ K9izpabm
              clear hK K
              (try simp only [Act.put]); (try simp only [List.setIfInBounds_toArray]); (try simp only [List.set_cons_succ]); (try simp only [List.set_cons_zero])
              refine take_at (i := 10) (d := some 88) (v := ?_) rfl rfl (by kernel_rfl) (by kernel_rfl) (by kernel_rfl) (fun _ _ _ h => h) (Or.inl ⟨by rfl, ?hyh42⟩) (by assumption) ?resth42
              case hyh42 => (intro w hSw; (try dsimp only at hSw); go_simp; try with_reducible rfl)
              (try simp only [Act.put]); (try simp only [List.setIfInBounds_toArray]); (try simp only [List.set_cons_succ]); (try simp only [List.set_cons_zero])
              refine take_at (i := 11) (d := some 99) (v := ?_) rfl rfl (by kernel_rfl) (by kernel_rfl) (by kernel_rfl) (fun _ _ _ h => h) (Or.inl ⟨by rfl, ?hyh43⟩) (by assumption) ?resth43
              case hyh43 => (intro w hSw; (try dsimp only at hSw); go_simp; try with_reducible rfl)
              (try simp only [Act.put]); (try simp only [List.setIfInBounds_toArray]); (try simp only [List.set_cons_succ]); (try simp only [List.set_cons_zero])
              refine take_at (i := 12) (d := some 100) (v := ?_) rfl rfl (by kernel_rfl) (by kernel_rfl) (by kernel_rfl) (fun _ _ _ h => h) (Or.inl ⟨by rfl, ?hyh44⟩) (by assumption) ?resth44
              case hyh44 => (intro w hSw; (try dsimp only at hSw); go_simp; try with_reducible rfl)
              (try simp only [Act.put]); (try simp only [List.setIfInBounds_toArray]); (try simp only [List.set_cons_succ]); (try simp only [List.set_cons_zero])
              refine wpAnyH_ready (rs := [14]) (by kernel_rfl) (by simp) ?_
              refine AllReadyH.cons rfl (fun K hK => ?_) AllReadyH.nil
              have zE := (z9izpabm.set0 (.string rn)).set1 (.slice A9 rl.length c9)
              have LE : Labs _ ((w9izpabm.setCell ⟨gz, 0, none⟩ (.string rn)).setCell ⟨gz, 1, none⟩ (.slice A9 rl.length c9)).heap.size _ rl := ((L9.awayNew hab (p := ⟨gz, 0, none⟩) hzl (.string rn)).awayNew hab (p := ⟨gz, 1, none⟩) hzl (.slice A9 rl.length c9)).more (by simp)
              have K9izpabms := (K9izpabm.setCell (p := ⟨gz, 0, none⟩) hzk (.string rn)).setCell (p := ⟨gz, 1, none⟩) hzk (.slice A9 rl.length c9)
              obtain ⟨y0, y1, y2, y3⟩ := id z9izpabm
              go_simp
              clear y0 y1 y2 y3
              refine hK.out _ _ ?_ (fun hHeld => ?_)
              · exact HS.out _ K9izpabms
              clear hK K
              (try simp only [Act.put]); (try simp only [List.setIfInBounds_toArray]); (try simp only [List.set_cons_succ]); (try simp only [List.set_cons_zero])
              refine take_at (i := 15) (d := some 13) (v := ?_) rfl rfl (by kernel_rfl) (by kernel_rfl) (by kernel_rfl) (fun _ _ _ h => h) (Or.inl ⟨by rfl, ?hyh45⟩) (by assumption) ?resth45
              case hyh45 => (intro w hSw; (try dsimp only at hSw); go_simp; try with_reducible rfl)
              (try simp only [Act.put]); (try simp only [List.setIfInBounds_toArray]); (try simp only [List.set_cons_succ]); (try simp only [List.set_cons_zero])
              refine wpAnyH_done (by kernel_rfl) ?_ _
              go_wp2_with fail
              go_meet
              exact ⟨gz, A9, c9, rfl, rfl, zE, LE, K9izpabms⟩
        · have kb := grew1 w9 (.cells #[.string mn, .string mv] 45)
          have K9p := ext_step K9 kb
          have p9p := At2.new w9 (.string mn) (.string mv) 45
          generalize hgp : w9.heap.size = gp at *
          go_simp
          change K _ (w9.alloc (.cells #[.string mn, .string mv] 45))
          generalize w9.alloc (.cells #[.string mn, .string mv] 45) = w9p at *
          clear hgp kb
          refine hK.out _ _ ?_ (fun hHeld => ?_)
          · exact HS.out _ K9p
          clear hK K
          (try simp only [Act.put]); (try simp only [List.setIfInBounds_toArray]); (try simp only [List.set_cons_succ]); (try simp only [List.set_cons_zero])
          refine wpAnyH_ready (rs := [2, 13]) (by kernel_rfl) (by simp) ?_
          refine AllReadyH.cons rfl (fun K hK => ?_) (AllReadyH.cons rfl (fun K hK => ?_) AllReadyH.nil)
          · have kb := grew1 w9p (.cells #[] 45)
            have K9pi := ext_step K9p kb
            have o9pi := OwnB.empty 45 w9p
            have hb2 : w8.heap.size ≤ w9p.heap.size := K9p.size
            have hb3 := kb.size
            have hp := Nat.ne_of_gt p9p.lt
            have p9pi := p9p.below kb
            generalize hgb : w9p.heap.size = gb at *
            go_simp
            change K _ (w9p.alloc (.cells #[] 45))
            generalize w9p.alloc (.cells #[] 45) = w9pi at *
            clear hgb kb
            have hp : (Value.slice (some ⟨gb, 0, none⟩) 0 0).ownBlock ≠ some gp := fun e => by simp [Value.ownBlock] at e; omega
            refine hK.out _ _ ?_ (fun hHeld => ?_)
            · exact HS.out _ K9pi
            clear hK K
            (try simp only [Act.put]); (try simp only [List.setIfInBounds_toArray]); (try simp only [List.set_cons_succ]); (try simp only [List.set_cons_zero])
            refine wpAnyH_ready (rs := [5, 13]) (by kernel_rfl) (by simp) ?_
            refine AllReadyH.cons rfl (fun K hK => ?_) (AllReadyH.cons rfl (fun K hK => ?_) AllReadyH.nil)
            · have hsb : gb ≤ w9pi.heap.size := Nat.le_of_lt (World.ownsRow.lt o9pi gb rfl).2
              refine step_append_cells2 _ rfl (.tmp 91) (.tmp 93) 22 rfl gb 45 i0 (.agg #[.string ByteArray.empty, .string ByteArray.empty]) 2 32 Tryz.underlying22 hi hz0 hz1 hz2 rfl (by decide) _ 0 [] rfl o9pi A0 x.length c0 (cellsB x) rfl (cellsB_length x) ((HX.out.below (B8.trans (K9pi.mono B8.size))).src fun _ _ => rfl) (cellsB_one x) (by omega) (by omega) hsb ?_
              intro v5 w9pia hr hgw hob
              obtain ⟨o9pia, hq⟩ := own_join (hs := x) o9pi hsb hr hgw
              have K9pia := K9pi.trans (hq.mono (by omega))
              have p9pia := p9pi.grown hgw hp
              have hp := apart_join hp p9pi.lt hob
              have hsb := Nat.le_trans hsb hq.size
              clear hr hgw hob hq
              refine hK.out _ _ ?_ (fun hHeld => ?_)
              · exact HS.out _ K9pia
              clear hK K
              (try simp only [Act.put]); (try simp only [List.setIfInBounds_toArray]); (try simp only [List.set_cons_succ]); (try simp only [List.set_cons_zero])
              refine wpAnyH_ready (rs := [8, 13]) (by kernel_rfl) (by simp) ?_
              refine AllReadyH.cons rfl (fun K hK => ?_) (AllReadyH.cons rfl (fun K hK => ?_) AllReadyH.nil)
              · refine step_append_cells2 _ rfl (.tmp 94) (.tmp 96) 22 rfl gb 45 i0 (.agg #[.string ByteArray.empty, .string ByteArray.empty]) 2 32 Tryz.underlying22 hi hz0 hz1 hz2 rfl (by decide) _ x.length (cellsB x) rfl o9pia (some ⟨gp, 0, none⟩) 1 1 (cellsB [(mn, mv)]) rfl rfl (src_two p9pia) (cellsB_one _) (by omega) (by omega) hsb ?_
                intro v8 w9piab hr hgw hob
                obtain ⟨o9piab, hq⟩ := own_join (hs := [(mn, mv)]) o9pia hsb hr hgw
                have K9piab := K9pia.trans (hq.mono (by omega))
                clear hr hgw hob hq
                refine hK.out _ _ ?_ (fun hHeld => ?_)
                · exact HS.out _ K9piab
                clear hK K
                (try simp only [Act.put]); (try simp only [List.setIfInBounds_toArray]); (try simp only [List.set_cons_succ]); (try simp only [List.set_cons_zero])
                refine wpAnyH_ready (rs := [9, 13]) (by kernel_rfl) (by simp) ?_
                refine AllReadyH.cons rfl (fun K hK => ?_) (AllReadyH.cons rfl (fun K hK => ?_) AllReadyH.nil)
                · go_simp
                  refine (CM2.out _ _ o9piab.labs).mono ?_; rintro e9 w9piabm ⟨v9, rfl, L9, b9, hab⟩
                  obtain ⟨A9, c9, rfl⟩ := L9.len
                  have K9piabm := ext_step K9piab b9
                  try go_wp2_with fail
                  refine hK.out _ _ ?_ (fun hHeld => ?_)
                  · exact HS.out _ K9piabm
                  clear hK K
                  (try simp only [Act.put]); (try simp only [List.setIfInBounds_toArray]); (try simp only [List.set_cons_succ]); (try simp only [List.set_cons_zero])
                  refine take_at (i := 10) (d := some 88) (v := ?_) rfl rfl (by kernel_rfl) (by kernel_rfl) (by kernel_rfl) (fun _ _ _ h => h) (Or.inl ⟨by rfl, ?hyh46⟩) (by assumption) ?resth46
                  case hyh46 => (intro w hSw; (try dsimp only at hSw); go_simp; try with_reducible rfl)
                  (try simp only [Act.put]); (try simp only [List.setIfInBounds_toArray]); (try simp only [List.set_cons_succ]); (try simp only [List.set_cons_zero])
                  refine take_at (i := 11) (d := some 99) (v := ?_) rfl rfl (by kernel_rfl) (by kernel_rfl) (by kernel_rfl) (fun _ _ _ h => h) (Or.inl ⟨by rfl, ?hyh47⟩) (by assumption) ?resth47
                  case hyh47 => (intro w hSw; (try dsimp only at hSw); go_simp; try with_reducible rfl)
                  (try simp only [Act.put]); (try simp only [List.setIfInBounds_toArray]); (try simp only [List.set_cons_succ]); (try simp only [List.set_cons_zero])
                  refine take_at (i := 12) (d := some 100) (v := ?_) rfl rfl (by kernel_rfl) (by kernel_rfl) (by kernel_rfl) (fun _ _ _ h => h) (Or.inl ⟨by rfl, ?hyh48⟩) (by assumption) ?resth48
                  case hyh48 => (intro w hSw; (try dsimp only at hSw); go_simp; try with_reducible rfl)
                  (try simp only [Act.put]); (try simp only [List.setIfInBounds_toArray]); (try simp only [List.set_cons_succ]); (try simp only [List.set_cons_zero])
                  refine wpAnyH_ready (rs := [13]) (by kernel_rfl) (by simp) ?_
                  refine AllReadyH.cons rfl (fun K hK => ?_) AllReadyH.nil
                  have kb := grew1 w9piabm (.cells #[.string ByteArray.empty, .slice none 0 0] 24)
                  have K9piabmz := ext_step K9piabm kb
                  have hzk : w8.heap.size ≤ w9piabm.heap.size := K9piabm.size
                  have z9piabmz := At2.new w9piabm (.string ByteArray.empty) (.slice none 0 0) 24
                  have L9 := L9.below kb
                  generalize hgz : w9piabm.heap.size = gz at *
                  go_simp
                  change K _ (w9piabm.alloc (.cells #[.string ByteArray.empty, .slice none 0 0] 24))
                  generalize w9piabm.alloc (.cells #[.string ByteArray.empty, .slice none 0 0] 24) = w9piabmz at *
                  clear hgz kb
                  refine hK.out _ _ ?_ (fun hHeld => ?_)
                  · exact HS.out _ K9piabmz
                  clear hK K
                  (try simp only [Act.put]); (try simp only [List.setIfInBounds_toArray]); (try simp only [List.set_cons_succ]); (try simp only [List.set_cons_zero])
                  refine wpAnyH_ready (rs := [14]) (by kernel_rfl) (by simp) ?_
                  refine AllReadyH.cons rfl (fun K hK => ?_) AllReadyH.nil
                  have zE := (z9piabmz.set0 (.string rn)).set1 (.slice A9 rl.length c9)
                  have LE := ((L9.below ((Below.refl gz _).setCell (p := ⟨gz, 0, none⟩) (Nat.le_refl _) (.string rn))).below ((Below.refl gz _).setCell (p := ⟨gz, 1, none⟩) (Nat.le_refl _) (.slice A9 rl.length c9))).more (show gz ≤ ((w9piabmz.setCell ⟨gz, 0, none⟩ (.string rn)).setCell ⟨gz, 1, none⟩ (.slice A9 rl.length c9)).heap.size by have := z9piabmz.lt; simp; omega)
                  have K9piabmzs := (K9piabmz.setCell (p := ⟨gz, 0, none⟩) hzk (.string rn)).setCell (p := ⟨gz, 1, none⟩) hzk (.slice A9 rl.length c9)
                  obtain ⟨y0, y1, y2, y3⟩ := id z9piabmz
                  go_simp
                  clear y0 y1 y2 y3
                  refine hK.out _ _ ?_ (fun hHeld => ?_)
                  · exact HS.out _ K9piabmzs
                  clear hK K
                  (try simp only [Act.put]); (try simp only [List.setIfInBounds_toArray]); (try simp only [List.set_cons_succ]); (try simp only [List.set_cons_zero])
                  refine take_at (i := 15) (d := some 13) (v := ?_) rfl rfl (by kernel_rfl) (by kernel_rfl) (by kernel_rfl) (fun _ _ _ h => h) (Or.inl ⟨by rfl, ?hyh49⟩) (by assumption) ?resth49
                  case hyh49 => (intro w hSw; (try dsimp only at hSw); go_simp; try with_reducible rfl)
                  (try simp only [Act.put]); (try simp only [List.setIfInBounds_toArray]); (try simp only [List.set_cons_succ]); (try simp only [List.set_cons_zero])
                  refine wpAnyH_done (by kernel_rfl) ?_ _
                  go_wp2_with fail
                  go_meet
                  exact ⟨gz, A9, c9, rfl, rfl, zE, LE, K9piabmzs⟩
                · have kb := grew1 w9piab (.cells #[.string ByteArray.empty, .slice none 0 0] 24)
                  have K9piabz := ext_step K9piab kb
                  have hzk : w8.heap.size ≤ w9piab.heap.size := K9piab.size
                  have z9piabz := At2.new w9piab (.string ByteArray.empty) (.slice none 0 0) 24
                  have hz := apart_new o9piab
                  have o9piabz := o9piab.below kb
                  generalize hgz : w9piab.heap.size = gz at *
                  go_simp
                  change K _ (w9piab.alloc (.cells #[.string ByteArray.empty, .slice none 0 0] 24))
                  generalize w9piab.alloc (.cells #[.string ByteArray.empty, .slice none 0 0] 24) = w9piabz at *
                  clear hgz kb
                  refine hK.out _ _ ?_ (fun hHeld => ?_)
                  · exact HS.out _ K9piabz
                  clear hK K
                  (try simp only [Act.put]); (try simp only [List.setIfInBounds_toArray]); (try simp only [List.set_cons_succ]); (try simp only [List.set_cons_zero])
                  refine wpAnyH_ready (rs := [9]) (by kernel_rfl) (by simp) ?_
                  refine AllReadyH.cons rfl (fun K hK => ?_) AllReadyH.nil
                  go_simp
                  refine (CM2.out _ _ o9piabz.labs).mono ?_; rintro e9 w9piabzm ⟨v9, rfl, L9, b9, hab⟩
                  obtain ⟨A9, c9, rfl⟩ := L9.len
                  have K9piabzm := ext_step K9piabz b9
                  have hzl := z9piabz.lt
                  have z9piabzm := z9piabz.below b9
                  try go_wp2_with fail
                  refine hK.out _ _ ?_ (fun hHeld => ?_)
                  · exact HS.out _ K9piabzm
                  clear hK K
                  (try simp only [Act.put]); (try simp only [List.setIfInBounds_toArray]); (try simp only [List.set_cons_succ]); (try simp only [List.set_cons_zero])
                  refine take_at (i := 10) (d := some 88) (v := ?_) rfl rfl (by kernel_rfl) (by kernel_rfl) (by kernel_rfl) (fun _ _ _ h => h) (Or.inl ⟨by rfl, ?hyh50⟩) (by assumption) ?resth50
                  case hyh50 => (intro w hSw; (try dsimp only at hSw); go_simp; try with_reducible rfl)
                  (try simp only [Act.put]); (try simp only [List.setIfInBounds_toArray]); (try simp only [List.set_cons_succ]); (try simp only [List.set_cons_zero])
                  refine take_at (i := 11) (d := some 99) (v := ?_) rfl rfl (by kernel_rfl) (by kernel_rfl) (by kernel_rfl) (fun _ _ _ h => h) (Or.inl ⟨by rfl, ?hyh51⟩) (by assumption) ?resth51
                  case hyh51 => (intro w hSw; (try dsimp only at hSw); go_simp; try with_reducible rfl)
                  (try simp only [Act.put]); (try simp only [List.setIfInBounds_toArray]); (try simp only [List.set_cons_succ]); (try simp only [List.set_cons_zero])
                  refine take_at (i := 12) (d := some 100) (v := ?_) rfl rfl (by kernel_rfl) (by kernel_rfl) (by kernel_rfl) (fun _ _ _ h => h) (Or.inl ⟨by rfl, ?hyh52⟩) (by assumption) ?resth52
                  case hyh52 => (intro w hSw; (try dsimp only at hSw); go_simp; try with_reducible rfl)
                  (try simp only [Act.put]); (try simp only [List.setIfInBounds_toArray]); (try simp only [List.set_cons_succ]); (try simp only [List.set_cons_zero])
                  refine wpAnyH_ready (rs := [14]) (by kernel_rfl) (by simp) ?_
                  refine AllReadyH.cons rfl (fun K hK => ?_) AllReadyH.nil
                  have zE := (z9piabzm.set0 (.string rn)).set1 (.slice A9 rl.length c9)
                  have LE : Labs _ ((w9piabzm.setCell ⟨gz, 0, none⟩ (.string rn)).setCell ⟨gz, 1, none⟩ (.slice A9 rl.length c9)).heap.size _ rl := ((L9.awayNew hab (p := ⟨gz, 0, none⟩) hzl (.string rn)).awayNew hab (p := ⟨gz, 1, none⟩) hzl (.slice A9 rl.length c9)).more (by simp)
                  have K9piabzms := (K9piabzm.setCell (p := ⟨gz, 0, none⟩) hzk (.string rn)).setCell (p := ⟨gz, 1, none⟩) hzk (.slice A9 rl.length c9)
                  obtain ⟨y0, y1, y2, y3⟩ := id z9piabzm
                  go_simp
                  clear y0 y1 y2 y3
                  refine hK.out _ _ ?_ (fun hHeld => ?_)
                  · exact HS.out _ K9piabzms
                  clear hK K
                  (try simp only [Act.put]); (try simp only [List.setIfInBounds_toArray]); (try simp only [List.set_cons_succ]); (try simp only [List.set_cons_zero])
                  refine take_at (i := 15) (d := some 13) (v := ?_) rfl rfl (by kernel_rfl) (by kernel_rfl) (by kernel_rfl) (fun _ _ _ h => h) (Or.inl ⟨by rfl, ?hyh53⟩) (by assumption) ?resth53
                  case hyh53 => (intro w hSw; (try dsimp only at hSw); go_simp; try with_reducible rfl)
                  (try simp only [Act.put]); (try simp only [List.setIfInBounds_toArray]); (try simp only [List.set_cons_succ]); (try simp only [List.set_cons_zero])
                  refine wpAnyH_done (by kernel_rfl) ?_ _
                  go_wp2_with fail
                  go_meet
                  exact ⟨gz, A9, c9, rfl, rfl, zE, LE, K9piabzms⟩
              · have kb := grew1 w9pia (.cells #[.string ByteArray.empty, .slice none 0 0] 24)
                have K9piaz := ext_step K9pia kb
                have hzk : w8.heap.size ≤ w9pia.heap.size := K9pia.size
                have z9piaz := At2.new w9pia (.string ByteArray.empty) (.slice none 0 0) 24
                have hz := apart_new o9pia
                have p9piaz := p9pia.below kb
                have o9piaz := o9pia.below kb
                have hsb := Nat.le_trans hsb kb.size
                generalize hgz : w9pia.heap.size = gz at *
                go_simp
                change K _ (w9pia.alloc (.cells #[.string ByteArray.empty, .slice none 0 0] 24))
                generalize w9pia.alloc (.cells #[.string ByteArray.empty, .slice none 0 0] 24) = w9piaz at *
                clear hgz kb
                refine hK.out _ _ ?_ (fun hHeld => ?_)
                · exact HS.out _ K9piaz
                clear hK K
                (try simp only [Act.put]); (try simp only [List.setIfInBounds_toArray]); (try simp only [List.set_cons_succ]); (try simp only [List.set_cons_zero])
                refine wpAnyH_ready (rs := [8]) (by kernel_rfl) (by simp) ?_
                refine AllReadyH.cons rfl (fun K hK => ?_) AllReadyH.nil
                refine step_append_cells2 _ rfl (.tmp 94) (.tmp 96) 22 rfl gb 45 i0 (.agg #[.string ByteArray.empty, .string ByteArray.empty]) 2 32 Tryz.underlying22 hi hz0 hz1 hz2 rfl (by decide) _ x.length (cellsB x) rfl o9piaz (some ⟨gp, 0, none⟩) 1 1 (cellsB [(mn, mv)]) rfl rfl (src_two p9piaz) (cellsB_one _) (by omega) (by omega) hsb ?_
                intro v8 w9piazb hr hgw hob
                obtain ⟨o9piazb, hq⟩ := own_join (hs := [(mn, mv)]) o9piaz hsb hr hgw
                have K9piazb := K9piaz.trans (hq.mono (by omega))
                have z9piazb := z9piaz.grown hgw hz
                have hz := apart_join hz z9piaz.lt hob
                clear hr hgw hob hq
                refine hK.out _ _ ?_ (fun hHeld => ?_)
                · exact HS.out _ K9piazb
                clear hK K
                (try simp only [Act.put]); (try simp only [List.setIfInBounds_toArray]); (try simp only [List.set_cons_succ]); (try simp only [List.set_cons_zero])
                refine wpAnyH_ready (rs := [9]) (by kernel_rfl) (by simp) ?_
                refine AllReadyH.cons rfl (fun K hK => ?_) AllReadyH.nil
                go_simp
                refine (CM2.out _ _ o9piazb.labs).mono ?_; rintro e9 w9piazbm ⟨v9, rfl, L9, b9, hab⟩
                obtain ⟨A9, c9, rfl⟩ := L9.len
                have K9piazbm := ext_step K9piazb b9
                have hzl := z9piazb.lt
                have z9piazbm := z9piazb.below b9
                try go_wp2_with fail
                refine hK.out _ _ ?_ (fun hHeld => ?_)
                · exact HS.out _ K9piazbm
                clear hK K
                (try simp only [Act.put]); (try simp only [List.setIfInBounds_toArray]); (try simp only [List.set_cons_succ]); (try simp only [List.set_cons_zero])
                refine take_at (i := 10) (d := some 88) (v := ?_) rfl rfl (by kernel_rfl) (by kernel_rfl) (by kernel_rfl) (fun _ _ _ h => h) (Or.inl ⟨by rfl, ?hyh54⟩) (by assumption) ?resth54
                case hyh54 => (intro w hSw; (try dsimp only at hSw); go_simp; try with_reducible rfl)
                (try simp only [Act.put]); (try simp only [List.setIfInBounds_toArray]); (try simp only [List.set_cons_succ]); (try simp only [List.set_cons_zero])
                refine take_at (i := 11) (d := some 99) (v := ?_) rfl rfl (by kernel_rfl) (by kernel_rfl) (by kernel_rfl) (fun _ _ _ h => h) (Or.inl ⟨by rfl, ?hyh55⟩) (by assumption) ?resth55
                case hyh55 => (intro w hSw; (try dsimp only at hSw); go_simp; try with_reducible rfl)
                (try simp only [Act.put]); (try simp only [List.setIfInBounds_toArray]); (try simp only [List.set_cons_succ]); (try simp only [List.set_cons_zero])
                refine take_at (i := 12) (d := some 100) (v := ?_) rfl rfl (by kernel_rfl) (by kernel_rfl) (by kernel_rfl) (fun _ _ _ h => h) (Or.inl ⟨by rfl, ?hyh56⟩) (by assumption) ?resth56
                case hyh56 => (intro w hSw; (try dsimp only at hSw); go_simp; try with_reducible rfl)
                (try simp only [Act.put]); (try simp only [List.setIfInBounds_toArray]); (try simp only [List.set_cons_succ]); (try simp only [List.set_cons_zero])
                refine wpAnyH_ready (rs := [14]) (by kernel_rfl) (by simp) ?_
                refine AllReadyH.cons rfl (fun K hK => ?_) AllReadyH.nil
                have zE := (z9piazbm.set0 (.string rn)).set1 (.slice A9 rl.length c9)
                have LE : Labs _ ((w9piazbm.setCell ⟨gz, 0, none⟩ (.string rn)).setCell ⟨gz, 1, none⟩ (.slice A9 rl.length c9)).heap.size _ rl := ((L9.awayNew hab (p := ⟨gz, 0, none⟩) hzl (.string rn)).awayNew hab (p := ⟨gz, 1, none⟩) hzl (.slice A9 rl.length c9)).more (by simp)
                have K9piazbms := (K9piazbm.setCell (p := ⟨gz, 0, none⟩) hzk (.string rn)).setCell (p := ⟨gz, 1, none⟩) hzk (.slice A9 rl.length c9)
                obtain ⟨y0, y1, y2, y3⟩ := id z9piazbm
                go_simp
                clear y0 y1 y2 y3
                refine hK.out _ _ ?_ (fun hHeld => ?_)
                · exact HS.out _ K9piazbms
                clear hK K
                (try simp only [Act.put]); (try simp only [List.setIfInBounds_toArray]); (try simp only [List.set_cons_succ]); (try simp only [List.set_cons_zero])
                refine take_at (i := 15) (d := some 13) (v := ?_) rfl rfl (by kernel_rfl) (by kernel_rfl) (by kernel_rfl) (fun _ _ _ h => h) (Or.inl ⟨by rfl, ?hyh57⟩) (by assumption) ?resth57
                case hyh57 => (intro w hSw; (try dsimp only at hSw); go_simp; try with_reducible rfl)
                (try simp only [Act.put]); (try simp only [List.setIfInBounds_toArray]); (try simp only [List.set_cons_succ]); (try simp only [List.set_cons_zero])
                refine wpAnyH_done (by kernel_rfl) ?_ _
                go_wp2_with fail
                go_meet
                exact ⟨gz, A9, c9, rfl, rfl, zE, LE, K9piazbms⟩
            · have kb := grew1 w9pi (.cells #[.string ByteArray.empty, .slice none 0 0] 24)
              have K9piz := ext_step K9pi kb
              have hzk : w8.heap.size ≤ w9pi.heap.size := K9pi.size
              have z9piz := At2.new w9pi (.string ByteArray.empty) (.slice none 0 0) 24
              have hz := apart_new o9pi
              have p9piz := p9pi.below kb
              have o9piz := o9pi.below kb
              generalize hgz : w9pi.heap.size = gz at *
              go_simp
              change K _ (w9pi.alloc (.cells #[.string ByteArray.empty, .slice none 0 0] 24))
              generalize w9pi.alloc (.cells #[.string ByteArray.empty, .slice none 0 0] 24) = w9piz at *
              clear hgz kb
              refine hK.out _ _ ?_ (fun hHeld => ?_)
              · exact HS.out _ K9piz
              clear hK K
              (try simp only [Act.put]); (try simp only [List.setIfInBounds_toArray]); (try simp only [List.set_cons_succ]); (try simp only [List.set_cons_zero])
              refine wpAnyH_ready (rs := [5]) (by kernel_rfl) (by simp) ?_
              refine AllReadyH.cons rfl (fun K hK => ?_) AllReadyH.nil
              have hsb : gb ≤ w9piz.heap.size := Nat.le_of_lt (World.ownsRow.lt o9piz gb rfl).2
              refine step_append_cells2 _ rfl (.tmp 91) (.tmp 93) 22 rfl gb 45 i0 (.agg #[.string ByteArray.empty, .string ByteArray.empty]) 2 32 Tryz.underlying22 hi hz0 hz1 hz2 rfl (by decide) _ 0 [] rfl o9piz A0 x.length c0 (cellsB x) rfl (cellsB_length x) ((HX.out.below (B8.trans (K9piz.mono B8.size))).src fun _ _ => rfl) (cellsB_one x) (by omega) (by omega) hsb ?_
              intro v5 w9piza hr hgw hob
              obtain ⟨o9piza, hq⟩ := own_join (hs := x) o9piz hsb hr hgw
              have K9piza := K9piz.trans (hq.mono (by omega))
              have z9piza := z9piz.grown hgw hz
              have hz := apart_join hz z9piz.lt hob
              have p9piza := p9piz.grown hgw hp
              have hp := apart_join hp p9piz.lt hob
              have hsb := Nat.le_trans hsb hq.size
              clear hr hgw hob hq
              refine hK.out _ _ ?_ (fun hHeld => ?_)
              · exact HS.out _ K9piza
              clear hK K
              (try simp only [Act.put]); (try simp only [List.setIfInBounds_toArray]); (try simp only [List.set_cons_succ]); (try simp only [List.set_cons_zero])
              refine wpAnyH_ready (rs := [8]) (by kernel_rfl) (by simp) ?_
              refine AllReadyH.cons rfl (fun K hK => ?_) AllReadyH.nil
              refine step_append_cells2 _ rfl (.tmp 94) (.tmp 96) 22 rfl gb 45 i0 (.agg #[.string ByteArray.empty, .string ByteArray.empty]) 2 32 Tryz.underlying22 hi hz0 hz1 hz2 rfl (by decide) _ x.length (cellsB x) rfl o9piza (some ⟨gp, 0, none⟩) 1 1 (cellsB [(mn, mv)]) rfl rfl (src_two p9piza) (cellsB_one _) (by omega) (by omega) hsb ?_
              intro v8 w9pizab hr hgw hob
              obtain ⟨o9pizab, hq⟩ := own_join (hs := [(mn, mv)]) o9piza hsb hr hgw
              have K9pizab := K9piza.trans (hq.mono (by omega))
              have z9pizab := z9piza.grown hgw hz
              have hz := apart_join hz z9piza.lt hob
              clear hr hgw hob hq
              refine hK.out _ _ ?_ (fun hHeld => ?_)
              · exact HS.out _ K9pizab
              clear hK K
              (try simp only [Act.put]); (try simp only [List.setIfInBounds_toArray]); (try simp only [List.set_cons_succ]); (try simp only [List.set_cons_zero])
              refine wpAnyH_ready (rs := [9]) (by kernel_rfl) (by simp) ?_
              refine AllReadyH.cons rfl (fun K hK => ?_) AllReadyH.nil
              go_simp
              refine (CM2.out _ _ o9pizab.labs).mono ?_; rintro e9 w9pizabm ⟨v9, rfl, L9, b9, hab⟩
              obtain ⟨A9, c9, rfl⟩ := L9.len
              have K9pizabm := ext_step K9pizab b9
              have hzl := z9pizab.lt
              have z9pizabm := z9pizab.below b9
              try go_wp2_with fail
              refine hK.out _ _ ?_ (fun hHeld => ?_)
              · exact HS.out _ K9pizabm
              clear hK K
              (try simp only [Act.put]); (try simp only [List.setIfInBounds_toArray]); (try simp only [List.set_cons_succ]); (try simp only [List.set_cons_zero])
              refine take_at (i := 10) (d := some 88) (v := ?_) rfl rfl (by kernel_rfl) (by kernel_rfl) (by kernel_rfl) (fun _ _ _ h => h) (Or.inl ⟨by rfl, ?hyh58⟩) (by assumption) ?resth58
              case hyh58 => (intro w hSw; (try dsimp only at hSw); go_simp; try with_reducible rfl)
              (try simp only [Act.put]); (try simp only [List.setIfInBounds_toArray]); (try simp only [List.set_cons_succ]); (try simp only [List.set_cons_zero])
              refine take_at (i := 11) (d := some 99) (v := ?_) rfl rfl (by kernel_rfl) (by kernel_rfl) (by kernel_rfl) (fun _ _ _ h => h) (Or.inl ⟨by rfl, ?hyh59⟩) (by assumption) ?resth59
              case hyh59 => (intro w hSw; (try dsimp only at hSw); go_simp; try with_reducible rfl)
              (try simp only [Act.put]); (try simp only [List.setIfInBounds_toArray]); (try simp only [List.set_cons_succ]); (try simp only [List.set_cons_zero])
              refine take_at (i := 12) (d := some 100) (v := ?_) rfl rfl (by kernel_rfl) (by kernel_rfl) (by kernel_rfl) (fun _ _ _ h => h) (Or.inl ⟨by rfl, ?hyh60⟩) (by assumption) ?resth60
              case hyh60 => (intro w hSw; (try dsimp only at hSw); go_simp; try with_reducible rfl)
              (try simp only [Act.put]); (try simp only [List.setIfInBounds_toArray]); (try simp only [List.set_cons_succ]); (try simp only [List.set_cons_zero])
              refine wpAnyH_ready (rs := [14]) (by kernel_rfl) (by simp) ?_
              refine AllReadyH.cons rfl (fun K hK => ?_) AllReadyH.nil
              have zE := (z9pizabm.set0 (.string rn)).set1 (.slice A9 rl.length c9)
              have LE : Labs _ ((w9pizabm.setCell ⟨gz, 0, none⟩ (.string rn)).setCell ⟨gz, 1, none⟩ (.slice A9 rl.length c9)).heap.size _ rl := ((L9.awayNew hab (p := ⟨gz, 0, none⟩) hzl (.string rn)).awayNew hab (p := ⟨gz, 1, none⟩) hzl (.slice A9 rl.length c9)).more (by simp)
              have K9pizabms := (K9pizabm.setCell (p := ⟨gz, 0, none⟩) hzk (.string rn)).setCell (p := ⟨gz, 1, none⟩) hzk (.slice A9 rl.length c9)
              obtain ⟨y0, y1, y2, y3⟩ := id z9pizabm
              go_simp
              clear y0 y1 y2 y3
              refine hK.out _ _ ?_ (fun hHeld => ?_)
              · exact HS.out _ K9pizabms
              clear hK K
              (try simp only [Act.put]); (try simp only [List.setIfInBounds_toArray]); (try simp only [List.set_cons_succ]); (try simp only [List.set_cons_zero])
              refine take_at (i := 15) (d := some 13) (v := ?_) rfl rfl (by kernel_rfl) (by kernel_rfl) (by kernel_rfl) (fun _ _ _ h => h) (Or.inl ⟨by rfl, ?hyh61⟩) (by assumption) ?resth61
              case hyh61 => (intro w hSw; (try dsimp only at hSw); go_simp; try with_reducible rfl)
              (try simp only [Act.put]); (try simp only [List.setIfInBounds_toArray]); (try simp only [List.set_cons_succ]); (try simp only [List.set_cons_zero])
              refine wpAnyH_done (by kernel_rfl) ?_ _
              go_wp2_with fail
              go_meet
              exact ⟨gz, A9, c9, rfl, rfl, zE, LE, K9pizabms⟩
          · have kb := grew1 w9p (.cells #[.string ByteArray.empty, .slice none 0 0] 24)
            have K9pz := ext_step K9p kb
            have hzk : w8.heap.size ≤ w9p.heap.size := K9p.size
            have z9pz := At2.new w9p (.string ByteArray.empty) (.slice none 0 0) 24
            have p9pz := p9p.below kb
            generalize hgz : w9p.heap.size = gz at *
            go_simp
            change K _ (w9p.alloc (.cells #[.string ByteArray.empty, .slice none 0 0] 24))
            generalize w9p.alloc (.cells #[.string ByteArray.empty, .slice none 0 0] 24) = w9pz at *
            clear hgz kb
            refine hK.out _ _ ?_ (fun hHeld => ?_)
            · exact HS.out _ K9pz
            clear hK K
            (try simp only [Act.put]); (try simp only [List.setIfInBounds_toArray]); (try simp only [List.set_cons_succ]); (try simp only [List.set_cons_zero])
            refine wpAnyH_ready (rs := [2]) (by kernel_rfl) (by simp) ?_
            refine AllReadyH.cons rfl (fun K hK => ?_) AllReadyH.nil
            have kb := grew1 w9pz (.cells #[] 45)
            have K9pzi := ext_step K9pz kb
            have o9pzi := OwnB.empty 45 w9pz
            have hb2 : w8.heap.size ≤ w9pz.heap.size := K9pz.size
            have hb3 := kb.size
            have hz := Nat.ne_of_gt z9pz.lt
            have hp := Nat.ne_of_gt p9pz.lt
            have z9pzi := z9pz.below kb
            have p9pzi := p9pz.below kb
            generalize hgb : w9pz.heap.size = gb at *
            go_simp
            change K _ (w9pz.alloc (.cells #[] 45))
            generalize w9pz.alloc (.cells #[] 45) = w9pzi at *
            clear hgb kb
            have hz : (Value.slice (some ⟨gb, 0, none⟩) 0 0).ownBlock ≠ some gz := fun e => by simp [Value.ownBlock] at e; omega
            have hp : (Value.slice (some ⟨gb, 0, none⟩) 0 0).ownBlock ≠ some gp := fun e => by simp [Value.ownBlock] at e; omega
            refine hK.out _ _ ?_ (fun hHeld => ?_)
            · exact HS.out _ K9pzi
            clear hK K
            (try simp only [Act.put]); (try simp only [List.setIfInBounds_toArray]); (try simp only [List.set_cons_succ]); (try simp only [List.set_cons_zero])
            refine wpAnyH_ready (rs := [5]) (by kernel_rfl) (by simp) ?_
            refine AllReadyH.cons rfl (fun K hK => ?_) AllReadyH.nil
            have hsb : gb ≤ w9pzi.heap.size := Nat.le_of_lt (World.ownsRow.lt o9pzi gb rfl).2
            refine step_append_cells2 _ rfl (.tmp 91) (.tmp 93) 22 rfl gb 45 i0 (.agg #[.string ByteArray.empty, .string ByteArray.empty]) 2 32 Tryz.underlying22 hi hz0 hz1 hz2 rfl (by decide) _ 0 [] rfl o9pzi A0 x.length c0 (cellsB x) rfl (cellsB_length x) ((HX.out.below (B8.trans (K9pzi.mono B8.size))).src fun _ _ => rfl) (cellsB_one x) (by omega) (by omega) hsb ?_
            intro v5 w9pzia hr hgw hob
            obtain ⟨o9pzia, hq⟩ := own_join (hs := x) o9pzi hsb hr hgw
            have K9pzia := K9pzi.trans (hq.mono (by omega))
            have z9pzia := z9pzi.grown hgw hz
            have hz := apart_join hz z9pzi.lt hob
            have p9pzia := p9pzi.grown hgw hp
            have hp := apart_join hp p9pzi.lt hob
            have hsb := Nat.le_trans hsb hq.size
            clear hr hgw hob hq
            refine hK.out _ _ ?_ (fun hHeld => ?_)
            · exact HS.out _ K9pzia
            clear hK K
            (try simp only [Act.put]); (try simp only [List.setIfInBounds_toArray]); (try simp only [List.set_cons_succ]); (try simp only [List.set_cons_zero])
            refine wpAnyH_ready (rs := [8]) (by kernel_rfl) (by simp) ?_
            refine AllReadyH.cons rfl (fun K hK => ?_) AllReadyH.nil
            refine step_append_cells2 _ rfl (.tmp 94) (.tmp 96) 22 rfl gb 45 i0 (.agg #[.string ByteArray.empty, .string ByteArray.empty]) 2 32 Tryz.underlying22 hi hz0 hz1 hz2 rfl (by decide) _ x.length (cellsB x) rfl o9pzia (some ⟨gp, 0, none⟩) 1 1 (cellsB [(mn, mv)]) rfl rfl (src_two p9pzia) (cellsB_one _) (by omega) (by omega) hsb ?_
            intro v8 w9pziab hr hgw hob
            obtain ⟨o9pziab, hq⟩ := own_join (hs := [(mn, mv)]) o9pzia hsb hr hgw
            have K9pziab := K9pzia.trans (hq.mono (by omega))
            have z9pziab := z9pzia.grown hgw hz
            have hz := apart_join hz z9pzia.lt hob
            clear hr hgw hob hq
            refine hK.out _ _ ?_ (fun hHeld => ?_)
            · exact HS.out _ K9pziab
            clear hK K
            (try simp only [Act.put]); (try simp only [List.setIfInBounds_toArray]); (try simp only [List.set_cons_succ]); (try simp only [List.set_cons_zero])
            refine wpAnyH_ready (rs := [9]) (by kernel_rfl) (by simp) ?_
            refine AllReadyH.cons rfl (fun K hK => ?_) AllReadyH.nil
            go_simp
            refine (CM2.out _ _ o9pziab.labs).mono ?_; rintro e9 w9pziabm ⟨v9, rfl, L9, b9, hab⟩
            obtain ⟨A9, c9, rfl⟩ := L9.len
            have K9pziabm := ext_step K9pziab b9
            have hzl := z9pziab.lt
            have z9pziabm := z9pziab.below b9
            try go_wp2_with fail
            refine hK.out _ _ ?_ (fun hHeld => ?_)
            · exact HS.out _ K9pziabm
            clear hK K
            (try simp only [Act.put]); (try simp only [List.setIfInBounds_toArray]); (try simp only [List.set_cons_succ]); (try simp only [List.set_cons_zero])
            refine take_at (i := 10) (d := some 88) (v := ?_) rfl rfl (by kernel_rfl) (by kernel_rfl) (by kernel_rfl) (fun _ _ _ h => h) (Or.inl ⟨by rfl, ?hyh62⟩) (by assumption) ?resth62
            case hyh62 => (intro w hSw; (try dsimp only at hSw); go_simp; try with_reducible rfl)
            (try simp only [Act.put]); (try simp only [List.setIfInBounds_toArray]); (try simp only [List.set_cons_succ]); (try simp only [List.set_cons_zero])
            refine take_at (i := 11) (d := some 99) (v := ?_) rfl rfl (by kernel_rfl) (by kernel_rfl) (by kernel_rfl) (fun _ _ _ h => h) (Or.inl ⟨by rfl, ?hyh63⟩) (by assumption) ?resth63
            case hyh63 => (intro w hSw; (try dsimp only at hSw); go_simp; try with_reducible rfl)
            (try simp only [Act.put]); (try simp only [List.setIfInBounds_toArray]); (try simp only [List.set_cons_succ]); (try simp only [List.set_cons_zero])
            refine take_at (i := 12) (d := some 100) (v := ?_) rfl rfl (by kernel_rfl) (by kernel_rfl) (by kernel_rfl) (fun _ _ _ h => h) (Or.inl ⟨by rfl, ?hyh64⟩) (by assumption) ?resth64
            case hyh64 => (intro w hSw; (try dsimp only at hSw); go_simp; try with_reducible rfl)
            (try simp only [Act.put]); (try simp only [List.setIfInBounds_toArray]); (try simp only [List.set_cons_succ]); (try simp only [List.set_cons_zero])
            refine wpAnyH_ready (rs := [14]) (by kernel_rfl) (by simp) ?_
            refine AllReadyH.cons rfl (fun K hK => ?_) AllReadyH.nil
            have zE := (z9pziabm.set0 (.string rn)).set1 (.slice A9 rl.length c9)
            have LE : Labs _ ((w9pziabm.setCell ⟨gz, 0, none⟩ (.string rn)).setCell ⟨gz, 1, none⟩ (.slice A9 rl.length c9)).heap.size _ rl := ((L9.awayNew hab (p := ⟨gz, 0, none⟩) hzl (.string rn)).awayNew hab (p := ⟨gz, 1, none⟩) hzl (.slice A9 rl.length c9)).more (by simp)
            have K9pziabms := (K9pziabm.setCell (p := ⟨gz, 0, none⟩) hzk (.string rn)).setCell (p := ⟨gz, 1, none⟩) hzk (.slice A9 rl.length c9)
            obtain ⟨y0, y1, y2, y3⟩ := id z9pziabm
            go_simp
            clear y0 y1 y2 y3
            refine hK.out _ _ ?_ (fun hHeld => ?_)
            · exact HS.out _ K9pziabms
            clear hK K
            (try simp only [Act.put]); (try simp only [List.setIfInBounds_toArray]); (try simp only [List.set_cons_succ]); (try simp only [List.set_cons_zero])
            refine take_at (i := 15) (d := some 13) (v := ?_) rfl rfl (by kernel_rfl) (by kernel_rfl) (by kernel_rfl) (fun _ _ _ h => h) (Or.inl ⟨by rfl, ?hyh65⟩) (by assumption) ?resth65
            case hyh65 => (intro w hSw; (try dsimp only at hSw); go_simp; try with_reducible rfl)
            (try simp only [Act.put]); (try simp only [List.setIfInBounds_toArray]); (try simp only [List.set_cons_succ]); (try simp only [List.set_cons_zero])
            refine wpAnyH_done (by kernel_rfl) ?_ _
            go_wp2_with fail
            go_meet
            exact ⟨gz, A9, c9, rfl, rfl, zE, LE, K9pziabms⟩
        · have kb := grew1 w9 (.cells #[.string ByteArray.empty, .slice none 0 0] 24)
          have K9z := ext_step K9 kb
          have hzk : w8.heap.size ≤ w9.heap.size := K9.size
          have z9z := At2.new w9 (.string ByteArray.empty) (.slice none 0 0) 24
          generalize hgz : w9.heap.size = gz at *
          go_simp
          change K _ (w9.alloc (.cells #[.string ByteArray.empty, .slice none 0 0] 24))
          generalize w9.alloc (.cells #[.string ByteArray.empty, .slice none 0 0] 24) = w9z at *
          clear hgz kb
          refine hK.out _ _ ?_ (fun hHeld => ?_)
          · exact HS.out _ K9z
          clear hK K
          (try simp only [Act.put]); (try simp only [List.setIfInBounds_toArray]); (try simp only [List.set_cons_succ]); (try simp only [List.set_cons_zero])
          refine wpAnyH_ready (rs := [2, 7]) (by kernel_rfl) (by simp) ?_
          refine AllReadyH.cons rfl (fun K hK => ?_) (AllReadyH.cons rfl (fun K hK => ?_) AllReadyH.nil)
          · have kb := grew1 w9z (.cells #[] 45)
            have K9zi := ext_step K9z kb
            have o9zi := OwnB.empty 45 w9z
            have hb2 : w8.heap.size ≤ w9z.heap.size := K9z.size
            have hb3 := kb.size
            have hz := Nat.ne_of_gt z9z.lt
            have z9zi := z9z.below kb
            generalize hgb : w9z.heap.size = gb at *
            go_simp
            change K _ (w9z.alloc (.cells #[] 45))
            generalize w9z.alloc (.cells #[] 45) = w9zi at *
            clear hgb kb
            have hz : (Value.slice (some ⟨gb, 0, none⟩) 0 0).ownBlock ≠ some gz := fun e => by simp [Value.ownBlock] at e; omega
            refine hK.out _ _ ?_ (fun hHeld => ?_)
            · exact HS.out _ K9zi
            clear hK K
            (try simp only [Act.put]); (try simp only [List.setIfInBounds_toArray]); (try simp only [List.set_cons_succ]); (try simp only [List.set_cons_zero])
            refine wpAnyH_ready (rs := [5, 7]) (by kernel_rfl) (by simp) ?_
            refine AllReadyH.cons rfl (fun K hK => ?_) (AllReadyH.cons rfl (fun K hK => ?_) AllReadyH.nil)
            · have hsb : gb ≤ w9zi.heap.size := Nat.le_of_lt (World.ownsRow.lt o9zi gb rfl).2
              refine step_append_cells2 _ rfl (.tmp 91) (.tmp 93) 22 rfl gb 45 i0 (.agg #[.string ByteArray.empty, .string ByteArray.empty]) 2 32 Tryz.underlying22 hi hz0 hz1 hz2 rfl (by decide) _ 0 [] rfl o9zi A0 x.length c0 (cellsB x) rfl (cellsB_length x) ((HX.out.below (B8.trans (K9zi.mono B8.size))).src fun _ _ => rfl) (cellsB_one x) (by omega) (by omega) hsb ?_
              intro v5 w9zia hr hgw hob
              obtain ⟨o9zia, hq⟩ := own_join (hs := x) o9zi hsb hr hgw
              have K9zia := K9zi.trans (hq.mono (by omega))
              have z9zia := z9zi.grown hgw hz
              have hz := apart_join hz z9zi.lt hob
              have hsb := Nat.le_trans hsb hq.size
              clear hr hgw hob hq
              refine hK.out _ _ ?_ (fun hHeld => ?_)
              · exact HS.out _ K9zia
              clear hK K
              (try simp only [Act.put]); (try simp only [List.setIfInBounds_toArray]); (try simp only [List.set_cons_succ]); (try simp only [List.set_cons_zero])
              refine wpAnyH_ready (rs := [7]) (by kernel_rfl) (by simp) ?_
              refine AllReadyH.cons rfl (fun K hK => ?_) AllReadyH.nil
              have kb := grew1 w9zia (.cells #[.string mn, .string mv] 45)
              have K9ziap := ext_step K9zia kb
              have p9ziap := At2.new w9zia (.string mn) (.string mv) 45
              have hp := apart_new o9zia
              have z9ziap := z9zia.below kb
              have o9ziap := o9zia.below kb
              have hsb := Nat.le_trans hsb kb.size
              generalize hgp : w9zia.heap.size = gp at *
              go_simp
              change K _ (w9zia.alloc (.cells #[.string mn, .string mv] 45))
              generalize w9zia.alloc (.cells #[.string mn, .string mv] 45) = w9ziap at *
              clear hgp kb
              refine hK.out _ _ ?_ (fun hHeld => ?_)
              · exact HS.out _ K9ziap
              clear hK K
              (try simp only [Act.put]); (try simp only [List.setIfInBounds_toArray]); (try simp only [List.set_cons_succ]); (try simp only [List.set_cons_zero])
              refine wpAnyH_ready (rs := [8]) (by kernel_rfl) (by simp) ?_
              refine AllReadyH.cons rfl (fun K hK => ?_) AllReadyH.nil
              refine step_append_cells2 _ rfl (.tmp 94) (.tmp 96) 22 rfl gb 45 i0 (.agg #[.string ByteArray.empty, .string ByteArray.empty]) 2 32 Tryz.underlying22 hi hz0 hz1 hz2 rfl (by decide) _ x.length (cellsB x) rfl o9ziap (some ⟨gp, 0, none⟩) 1 1 (cellsB [(mn, mv)]) rfl rfl (src_two p9ziap) (cellsB_one _) (by omega) (by omega) hsb ?_
              intro v8 w9ziapb hr hgw hob
              obtain ⟨o9ziapb, hq⟩ := own_join (hs := [(mn, mv)]) o9ziap hsb hr hgw
              have K9ziapb := K9ziap.trans (hq.mono (by omega))
              have z9ziapb := z9ziap.grown hgw hz
              have hz := apart_join hz z9ziap.lt hob
              clear hr hgw hob hq
              refine hK.out _ _ ?_ (fun hHeld => ?_)
              · exact HS.out _ K9ziapb
              clear hK K
              (try simp only [Act.put]); (try simp only [List.setIfInBounds_toArray]); (try simp only [List.set_cons_succ]); (try simp only [List.set_cons_zero])
              refine wpAnyH_ready (rs := [9]) (by kernel_rfl) (by simp) ?_
              refine AllReadyH.cons rfl (fun K hK => ?_) AllReadyH.nil
              go_simp
              refine (CM2.out _ _ o9ziapb.labs).mono ?_; rintro e9 w9ziapbm ⟨v9, rfl, L9, b9, hab⟩
              obtain ⟨A9, c9, rfl⟩ := L9.len
              have K9ziapbm := ext_step K9ziapb b9
              have hzl := z9ziapb.lt
              have z9ziapbm := z9ziapb.below b9
              try go_wp2_with fail
              refine hK.out _ _ ?_ (fun hHeld => ?_)
              · exact HS.out _ K9ziapbm
              clear hK K
              (try simp only [Act.put]); (try simp only [List.setIfInBounds_toArray]); (try simp only [List.set_cons_succ]); (try simp only [List.set_cons_zero])
              refine take_at (i := 10) (d := some 88) (v := ?_) rfl rfl (by kernel_rfl) (by kernel_rfl) (by kernel_rfl) (fun _ _ _ h => h) (Or.inl ⟨by rfl, ?hyh66⟩) (by assumption) ?resth66
              case hyh66 => (intro w hSw; (try dsimp only at hSw); go_simp; try with_reducible rfl)
              (try simp only [Act.put]); (try simp only [List.setIfInBounds_toArray]); (try simp only [List.set_cons_succ]); (try simp only [List.set_cons_zero])
              refine take_at (i := 11) (d := some 99) (v := ?_) rfl rfl (by kernel_rfl) (by kernel_rfl) (by kernel_rfl) (fun _ _ _ h => h) (Or.inl ⟨by rfl, ?hyh67⟩) (by assumption) ?resth67
              case hyh67 => (intro w hSw; (try dsimp only at hSw); go_simp; try with_reducible rfl)
              (try simp only [Act.put]); (try simp only [List.setIfInBounds_toArray]); (try simp only [List.set_cons_succ]); (try simp only [List.set_cons_zero])
              refine take_at (i := 12) (d := some 100) (v := ?_) rfl rfl (by kernel_rfl) (by kernel_rfl) (by kernel_rfl) (fun _ _ _ h => h) (Or.inl ⟨by rfl, ?hyh68⟩) (by assumption) ?resth68
              case hyh68 => (intro w hSw; (try dsimp only at hSw); go_simp; try with_reducible rfl)
              (try simp only [Act.put]); (try simp only [List.setIfInBounds_toArray]); (try simp only [List.set_cons_succ]); (try simp only [List.set_cons_zero])
              refine wpAnyH_ready (rs := [14]) (by kernel_rfl) (by simp) ?_
              refine AllReadyH.cons rfl (fun K hK => ?_) AllReadyH.nil
              have zE := (z9ziapbm.set0 (.string rn)).set1 (.slice A9 rl.length c9)
              have LE : Labs _ ((w9ziapbm.setCell ⟨gz, 0, none⟩ (.string rn)).setCell ⟨gz, 1, none⟩ (.slice A9 rl.length c9)).heap.size _ rl := ((L9.awayNew hab (p := ⟨gz, 0, none⟩) hzl (.string rn)).awayNew hab (p := ⟨gz, 1, none⟩) hzl (.slice A9 rl.length c9)).more (by simp)
              have K9ziapbms := (K9ziapbm.setCell (p := ⟨gz, 0, none⟩) hzk (.string rn)).setCell (p := ⟨gz, 1, none⟩) hzk (.slice A9 rl.length c9)
              obtain ⟨y0, y1, y2, y3⟩ := id z9ziapbm
              go_simp
              clear y0 y1 y2 y3
              refine hK.out _ _ ?_ (fun hHeld => ?_)
              · exact HS.out _ K9ziapbms
              clear hK K
              (try simp only [Act.put]); (try simp only [List.setIfInBounds_toArray]); (try simp only [List.set_cons_succ]); (try simp only [List.set_cons_zero])
              refine take_at (i := 15) (d := some 13) (v := ?_) rfl rfl (by kernel_rfl) (by kernel_rfl) (by kernel_rfl) (fun _ _ _ h => h) (Or.inl ⟨by rfl, ?hyh69⟩) (by assumption) ?resth69
              case hyh69 => (intro w hSw; (try dsimp only at hSw); go_simp; try with_reducible rfl)
              (try simp only [Act.put]); (try simp only [List.setIfInBounds_toArray]); (try simp only [List.set_cons_succ]); (try simp only [List.set_cons_zero])
              refine wpAnyH_done (by kernel_rfl) ?_ _
              go_wp2_with fail
              go_meet
              exact ⟨gz, A9, c9, rfl, rfl, zE, LE, K9ziapbms⟩
            · have kb := grew1 w9zi (.cells #[.string mn, .string mv] 45)
              have K9zip := ext_step K9zi kb
              have p9zip := At2.new w9zi (.string mn) (.string mv) 45
              have hp := apart_new o9zi
              have z9zip := z9zi.below kb
              have o9zip := o9zi.below kb
              generalize hgp : w9zi.heap.size = gp at *
              go_simp
              change K _ (w9zi.alloc (.cells #[.string mn, .string mv] 45))
              generalize w9zi.alloc (.cells #[.string mn, .string mv] 45) = w9zip at *
              clear hgp kb
              refine hK.out _ _ ?_ (fun hHeld => ?_)
              · exact HS.out _ K9zip
              clear hK K
              (try simp only [Act.put]); (try simp only [List.setIfInBounds_toArray]); (try simp only [List.set_cons_succ]); (try simp only [List.set_cons_zero])
              refine wpAnyH_ready (rs := [5]) (by kernel_rfl) (by simp) ?_
              refine AllReadyH.cons rfl (fun K hK => ?_) AllReadyH.nil
              have hsb : gb ≤ w9zip.heap.size := Nat.le_of_lt (World.ownsRow.lt o9zip gb rfl).2
              refine step_append_cells2 _ rfl (.tmp 91) (.tmp 93) 22 rfl gb 45 i0 (.agg #[.string ByteArray.empty, .string ByteArray.empty]) 2 32 Tryz.underlying22 hi hz0 hz1 hz2 rfl (by decide) _ 0 [] rfl o9zip A0 x.length c0 (cellsB x) rfl (cellsB_length x) ((HX.out.below (B8.trans (K9zip.mono B8.size))).src fun _ _ => rfl) (cellsB_one x) (by omega) (by omega) hsb ?_
              intro v5 w9zipa hr hgw hob
              obtain ⟨o9zipa, hq⟩ := own_join (hs := x) o9zip hsb hr hgw
              have K9zipa := K9zip.trans (hq.mono (by omega))
              have z9zipa := z9zip.grown hgw hz
              have hz := apart_join hz z9zip.lt hob
              have p9zipa := p9zip.grown hgw hp
              have hp := apart_join hp p9zip.lt hob
              have hsb := Nat.le_trans hsb hq.size
              clear hr hgw hob hq
              refine hK.out _ _ ?_ (fun hHeld => ?_)
              · exact HS.out _ K9zipa
              clear hK K
              (try simp only [Act.put]); (try simp only [List.setIfInBounds_toArray]); (try simp only [List.set_cons_succ]); (try simp only [List.set_cons_zero])
              refine wpAnyH_ready (rs := [8]) (by kernel_rfl) (by simp) ?_
              refine AllReadyH.cons rfl (fun K hK => ?_) AllReadyH.nil
              refine step_append_cells2 _ rfl (.tmp 94) (.tmp 96) 22 rfl gb 45 i0 (.agg #[.string ByteArray.empty, .string ByteArray.empty]) 2 32 Tryz.underlying22 hi hz0 hz1 hz2 rfl (by decide) _ x.length (cellsB x) rfl o9zipa (some ⟨gp, 0, none⟩) 1 1 (cellsB [(mn, mv)]) rfl rfl (src_two p9zipa) (cellsB_one _) (by omega) (by omega) hsb ?_
              intro v8 w9zipab hr hgw hob
              obtain ⟨o9zipab, hq⟩ := own_join (hs := [(mn, mv)]) o9zipa hsb hr hgw
              have K9zipab := K9zipa.trans (hq.mono (by omega))
              have z9zipab := z9zipa.grown hgw hz
              have hz := apart_join hz z9zipa.lt hob
              clear hr hgw hob hq
              refine hK.out _ _ ?_ (fun hHeld => ?_)
              · exact HS.out _ K9zipab
              clear hK K
              (try simp only [Act.put]); (try simp only [List.setIfInBounds_toArray]); (try simp only [List.set_cons_succ]); (try simp only [List.set_cons_zero])
              refine wpAnyH_ready (rs := [9]) (by kernel_rfl) (by simp) ?_
              refine AllReadyH.cons rfl (fun K hK => ?_) AllReadyH.nil
              go_simp
              refine (CM2.out _ _ o9zipab.labs).mono ?_; rintro e9 w9zipabm ⟨v9, rfl, L9, b9, hab⟩
              obtain ⟨A9, c9, rfl⟩ := L9.len
              have K9zipabm := ext_step K9zipab b9
              have hzl := z9zipab.lt
              have z9zipabm := z9zipab.below b9
              try go_wp2_with fail
              refine hK.out _ _ ?_ (fun hHeld => ?_)
              · exact HS.out _ K9zipabm
              clear hK K
              (try simp only [Act.put]); (try simp only [List.setIfInBounds_toArray]); (try simp only [List.set_cons_succ]); (try simp only [List.set_cons_zero])
              refine take_at (i := 10) (d := some 88) (v := ?_) rfl rfl (by kernel_rfl) (by kernel_rfl) (by kernel_rfl) (fun _ _ _ h => h) (Or.inl ⟨by rfl, ?hyh70⟩) (by assumption) ?resth70
              case hyh70 => (intro w hSw; (try dsimp only at hSw); go_simp; try with_reducible rfl)
              (try simp only [Act.put]); (try simp only [List.setIfInBounds_toArray]); (try simp only [List.set_cons_succ]); (try simp only [List.set_cons_zero])
              refine take_at (i := 11) (d := some 99) (v := ?_) rfl rfl (by kernel_rfl) (by kernel_rfl) (by kernel_rfl) (fun _ _ _ h => h) (Or.inl ⟨by rfl, ?hyh71⟩) (by assumption) ?resth71
              case hyh71 => (intro w hSw; (try dsimp only at hSw); go_simp; try with_reducible rfl)
              (try simp only [Act.put]); (try simp only [List.setIfInBounds_toArray]); (try simp only [List.set_cons_succ]); (try simp only [List.set_cons_zero])
              refine take_at (i := 12) (d := some 100) (v := ?_) rfl rfl (by kernel_rfl) (by kernel_rfl) (by kernel_rfl) (fun _ _ _ h => h) (Or.inl ⟨by rfl, ?hyh72⟩) (by assumption) ?resth72
              case hyh72 => (intro w hSw; (try dsimp only at hSw); go_simp; try with_reducible rfl)
              (try simp only [Act.put]); (try simp only [List.setIfInBounds_toArray]); (try simp only [List.set_cons_succ]); (try simp only [List.set_cons_zero])
              refine wpAnyH_ready (rs := [14]) (by kernel_rfl) (by simp) ?_
              refine AllReadyH.cons rfl (fun K hK => ?_) AllReadyH.nil
              have zE := (z9zipabm.set0 (.string rn)).set1 (.slice A9 rl.length c9)
              have LE : Labs _ ((w9zipabm.setCell ⟨gz, 0, none⟩ (.string rn)).setCell ⟨gz, 1, none⟩ (.slice A9 rl.length c9)).heap.size _ rl := ((L9.awayNew hab (p := ⟨gz, 0, none⟩) hzl (.string rn)).awayNew hab (p := ⟨gz, 1, none⟩) hzl (.slice A9 rl.length c9)).more (by simp)
              have K9zipabms := (K9zipabm.setCell (p := ⟨gz, 0, none⟩) hzk (.string rn)).setCell (p := ⟨gz, 1, none⟩) hzk (.slice A9 rl.length c9)
              obtain ⟨y0, y1, y2, y3⟩ := id z9zipabm
              go_simp
              clear y0 y1 y2 y3
              refine hK.out _ _ ?_ (fun hHeld => ?_)
              · exact HS.out _ K9zipabms
              clear hK K
              (try simp only [Act.put]); (try simp only [List.setIfInBounds_toArray]); (try simp only [List.set_cons_succ]); (try simp only [List.set_cons_zero])
              refine take_at (i := 15) (d := some 13) (v := ?_) rfl rfl (by kernel_rfl) (by kernel_rfl) (by kernel_rfl) (fun _ _ _ h => h) (Or.inl ⟨by rfl, ?hyh73⟩) (by assumption) ?resth73
              case hyh73 => (intro w hSw; (try dsimp only at hSw); go_simp; try with_reducible rfl)
              (try simp only [Act.put]); (try simp only [List.setIfInBounds_toArray]); (try simp only [List.set_cons_succ]); (try simp only [List.set_cons_zero])
              refine wpAnyH_done (by kernel_rfl) ?_ _
              go_wp2_with fail
              go_meet
              exact ⟨gz, A9, c9, rfl, rfl, zE, LE, K9zipabms⟩
          · have kb := grew1 w9z (.cells #[.string mn, .string mv] 45)
            have K9zp := ext_step K9z kb
            have p9zp := At2.new w9z (.string mn) (.string mv) 45
            have z9zp := z9z.below kb
            generalize hgp : w9z.heap.size = gp at *
            go_simp
            change K _ (w9z.alloc (.cells #[.string mn, .string mv] 45))
            generalize w9z.alloc (.cells #[.string mn, .string mv] 45) = w9zp at *
            clear hgp kb
            refine hK.out _ _ ?_ (fun hHeld => ?_)
            · exact HS.out _ K9zp
            clear hK K
            (try simp only [Act.put]); (try simp only [List.setIfInBounds_toArray]); (try simp only [List.set_cons_succ]); (try simp only [List.set_cons_zero])
            refine wpAnyH_ready (rs := [2]) (by kernel_rfl) (by simp) ?_
            refine AllReadyH.cons rfl (fun K hK => ?_) AllReadyH.nil
            have kb := grew1 w9zp (.cells #[] 45)
            have K9zpi := ext_step K9zp kb
            have o9zpi := OwnB.empty 45 w9zp
            have hb2 : w8.heap.size ≤ w9zp.heap.size := K9zp.size
            have hb3 := kb.size
            have hz := Nat.ne_of_gt z9zp.lt
            have hp := Nat.ne_of_gt p9zp.lt
            have z9zpi := z9zp.below kb
            have p9zpi := p9zp.below kb
            generalize hgb : w9zp.heap.size = gb at *
            go_simp
            change K _ (w9zp.alloc (.cells #[] 45))
            generalize w9zp.alloc (.cells #[] 45) = w9zpi at *
            clear hgb kb
            have hz : (Value.slice (some ⟨gb, 0, none⟩) 0 0).ownBlock ≠ some gz := fun e => by simp [Value.ownBlock] at e; omega
            have hp : (Value.slice (some ⟨gb, 0, none⟩) 0 0).ownBlock ≠ some gp := fun e => by simp [Value.ownBlock] at e; omega
            refine hK.out _ _ ?_ (fun hHeld => ?_)
            · exact HS.out _ K9zpi
            clear hK K
            (try simp only [Act.put]); (try simp only [List.setIfInBounds_toArray]); (try simp only [List.set_cons_succ]); (try simp only [List.set_cons_zero])
            refine wpAnyH_ready (rs := [5]) (by kernel_rfl) (by simp) ?_
            refine AllReadyH.cons rfl (fun K hK => ?_) AllReadyH.nil
            have hsb : gb ≤ w9zpi.heap.size := Nat.le_of_lt (World.ownsRow.lt o9zpi gb rfl).2
            refine step_append_cells2 _ rfl (.tmp 91) (.tmp 93) 22 rfl gb 45 i0 (.agg #[.string ByteArray.empty, .string ByteArray.empty]) 2 32 Tryz.underlying22 hi hz0 hz1 hz2 rfl (by decide) _ 0 [] rfl o9zpi A0 x.length c0 (cellsB x) rfl (cellsB_length x) ((HX.out.below (B8.trans (K9zpi.mono B8.size))).src fun _ _ => rfl) (cellsB_one x) (by omega) (by omega) hsb ?_
            intro v5 w9zpia hr hgw hob
            obtain ⟨o9zpia, hq⟩ := own_join (hs := x) o9zpi hsb hr hgw
            have K9zpia := K9zpi.trans (hq.mono (by omega))
            have z9zpia := z9zpi.grown hgw hz
            have hz := apart_join hz z9zpi.lt hob
            have p9zpia := p9zpi.grown hgw hp
            have hp := apart_join hp p9zpi.lt hob
            have hsb := Nat.le_trans hsb hq.size
            clear hr hgw hob hq
            refine hK.out _ _ ?_ (fun hHeld => ?_)
            · exact HS.out _ K9zpia
            clear hK K
            (try simp only [Act.put]); (try simp only [List.setIfInBounds_toArray]); (try simp only [List.set_cons_succ]); (try simp only [List.set_cons_zero])
            refine wpAnyH_ready (rs := [8]) (by kernel_rfl) (by simp) ?_
            refine AllReadyH.cons rfl (fun K hK => ?_) AllReadyH.nil
            refine step_append_cells2 _ rfl (.tmp 94) (.tmp 96) 22 rfl gb 45 i0 (.agg #[.string ByteArray.empty, .string ByteArray.empty]) 2 32 Tryz.underlying22 hi hz0 hz1 hz2 rfl (by decide) _ x.length (cellsB x) rfl o9zpia (some ⟨gp, 0, none⟩) 1 1 (cellsB [(mn, mv)]) rfl rfl (src_two p9zpia) (cellsB_one _) (by omega) (by omega) hsb ?_
            intro v8 w9zpiab hr hgw hob
            obtain ⟨o9zpiab, hq⟩ := own_join (hs := [(mn, mv)]) o9zpia hsb hr hgw
            have K9zpiab := K9zpia.trans (hq.mono (by omega))
            have z9zpiab := z9zpia.grown hgw hz
            have hz := apart_join hz z9zpia.lt hob
            clear hr hgw hob hq
            refine hK.out _ _ ?_ (fun hHeld => ?_)
            · exact HS.out _ K9zpiab
            clear hK K
            (try simp only [Act.put]); (try simp only [List.setIfInBounds_toArray]); (try simp only [List.set_cons_succ]); (try simp only [List.set_cons_zero])
            refine wpAnyH_ready (rs := [9]) (by kernel_rfl) (by simp) ?_
            refine AllReadyH.cons rfl (fun K hK => ?_) AllReadyH.nil
            go_simp
            refine (CM2.out _ _ o9zpiab.labs).mono ?_; rintro e9 w9zpiabm ⟨v9, rfl, L9, b9, hab⟩
            obtain ⟨A9, c9, rfl⟩ := L9.len
            have K9zpiabm := ext_step K9zpiab b9
            have hzl := z9zpiab.lt
            have z9zpiabm := z9zpiab.below b9
            try go_wp2_with fail
            refine hK.out _ _ ?_ (fun hHeld => ?_)
            · exact HS.out _ K9zpiabm
            clear hK K
            (try simp only [Act.put]); (try simp only [List.setIfInBounds_toArray]); (try simp only [List.set_cons_succ]); (try simp only [List.set_cons_zero])
            refine take_at (i := 10) (d := some 88) (v := ?_) rfl rfl (by kernel_rfl) (by kernel_rfl) (by kernel_rfl) (fun _ _ _ h => h) (Or.inl ⟨by rfl, ?hyh74⟩) (by assumption) ?resth74
            case hyh74 => (intro w hSw; (try dsimp only at hSw); go_simp; try with_reducible rfl)
            (try simp only [Act.put]); (try simp only [List.setIfInBounds_toArray]); (try simp only [List.set_cons_succ]); (try simp only [List.set_cons_zero])
            refine take_at (i := 11) (d := some 99) (v := ?_) rfl rfl (by kernel_rfl) (by kernel_rfl) (by kernel_rfl) (fun _ _ _ h => h) (Or.inl ⟨by rfl, ?hyh75⟩) (by assumption) ?resth75
            case hyh75 => (intro w hSw; (try dsimp only at hSw); go_simp; try with_reducible rfl)
            (try simp only [Act.put]); (try simp only [List.setIfInBounds_toArray]); (try simp only [List.set_cons_succ]); (try simp only [List.set_cons_zero])
            refine take_at (i := 12) (d := some 100) (v := ?_) rfl rfl (by kernel_rfl) (by kernel_rfl) (by kernel_rfl) (fun _ _ _ h => h) (Or.inl ⟨by rfl, ?hyh76⟩) (by assumption) ?resth76
            case hyh76 => (intro w hSw; (try dsimp only at hSw); go_simp; try with_reducible rfl)
            (try simp only [Act.put]); (try simp only [List.setIfInBounds_toArray]); (try simp only [List.set_cons_succ]); (try simp only [List.set_cons_zero])
            refine wpAnyH_ready (rs := [14]) (by kernel_rfl) (by simp) ?_
            refine AllReadyH.cons rfl (fun K hK => ?_) AllReadyH.nil
            have zE := (z9zpiabm.set0 (.string rn)).set1 (.slice A9 rl.length c9)
            have LE : Labs _ ((w9zpiabm.setCell ⟨gz, 0, none⟩ (.string rn)).setCell ⟨gz, 1, none⟩ (.slice A9 rl.length c9)).heap.size _ rl := ((L9.awayNew hab (p := ⟨gz, 0, none⟩) hzl (.string rn)).awayNew hab (p := ⟨gz, 1, none⟩) hzl (.slice A9 rl.length c9)).more (by simp)
            have K9zpiabms := (K9zpiabm.setCell (p := ⟨gz, 0, none⟩) hzk (.string rn)).setCell (p := ⟨gz, 1, none⟩) hzk (.slice A9 rl.length c9)
            obtain ⟨y0, y1, y2, y3⟩ := id z9zpiabm
            go_simp
            clear y0 y1 y2 y3
            refine hK.out _ _ ?_ (fun hHeld => ?_)
            · exact HS.out _ K9zpiabms
            clear hK K
            (try simp only [Act.put]); (try simp only [List.setIfInBounds_toArray]); (try simp only [List.set_cons_succ]); (try simp only [List.set_cons_zero])
            refine take_at (i := 15) (d := some 13) (v := ?_) rfl rfl (by kernel_rfl) (by kernel_rfl) (by kernel_rfl) (fun _ _ _ h => h) (Or.inl ⟨by rfl, ?hyh77⟩) (by assumption) ?resth77
            case hyh77 => (intro w hSw; (try dsimp only at hSw); go_simp; try with_reducible rfl)
            (try simp only [Act.put]); (try simp only [List.setIfInBounds_toArray]); (try simp only [List.set_cons_succ]); (try simp only [List.set_cons_zero])
            refine wpAnyH_done (by kernel_rfl) ?_ _
            go_wp2_with fail
            go_meet
            exact ⟨gz, A9, c9, rfl, rfl, zE, LE, K9zpiabms⟩
      case rest =>
        obtain ⟨gz, A9, c9, rfl, rfl, z9, L9, k9⟩ := hcut
        have a9 := a8.below k9
        have e9 := e8.below k9
        have m9 := m8.below k9
        have M9 := (L8.below k9).more k9.size
        have B9 := ext_step B8 k9
        clear a8 e8 m8 L8 B8 k9
        obtain ⟨s0, s1, -, -⟩ := id a9
        obtain ⟨t0, t1, -, -⟩ := id e9
        rcases HQ4.out with ⟨h1, h2, h3, h4, h5⟩ | ⟨h1, v, h2⟩ | ⟨h1, h2⟩ | h1
        · have h1 : re = 0 := h1
          have h2 : getL ql mn = none := h2
          have h3 : getL rl mn = some mv := h3
          have h4 : rl.length = x.length + 1 := h4
          have h5 : ¬ (qn = rn ∧ ql = rl) := h5
          subst h1
          rw [h2]
          rw [h4] at z9 L9
          have CG2 := Lib.hid fun W (h : Labs W W.heap.size (.slice A9 (x.length + 1) c9) rl) => G.get rn (.slice A9 (x.length + 1) c9) rl mn W ⟨h, HZ2.out.1, HZ2.out.2.1, HZ2.out.2.2⟩
          rw [h3] at CG2
          have CG2 : Hid (∀ W, Labs W W.heap.size (.slice A9 (x.length + 1) c9) rl → Calls Tryz.prog 21 #[.agg #[.string rn, .slice A9 (x.length + 1) c9], .string mn] W fun e w' => e = .returned (.tuple #[.string mv, .bool true]) ∧ Below W.heap.size W w') := CG2
          have CS := Lib.hid fun W (h : Labs W W.heap.size (.slice A4 ql.length c4) ql) (k : Labs W W.heap.size (.slice A9 (x.length + 1) c9) rl) => same8_any qn rn (.slice A4 ql.length c4) (.slice A9 (x.length + 1) c9) ql rl W ⟨h, HSZ.out.1, HSZ.out.2.1, HSZ.out.2.2⟩ ⟨k, HZ2.out.1, HZ2.out.2.1, HZ2.out.2.2⟩
          rw [decide_eq_false h5] at CS
          clear h2 h3 h4 h5
          obtain ⟨z0, z1, -, -⟩ := id z9
          go_wp2_with fail
          refine (CG2.out _ L9).mono ?_; rintro e10 w10 ⟨rfl, b10⟩
          have a10 := a9.below b10
          have e10 := e9.below b10
          have m10 := m9.below b10
          have z10 := z9.below b10
          have L10 := (L9.below b10).more b10.size
          have M10 := (M9.below b10).more b10.size
          have B10 := ext_step B9 b10
          clear a9 e9 m9 z9 L9 M9 B9 b10 s0 s1 t0 t1 z0 z1
          obtain ⟨s0, s1, -, -⟩ := id a10
          obtain ⟨t0, t1, -, -⟩ := id e10
          obtain ⟨z0, z1, -, -⟩ := id z10
          obtain ⟨m0, m1, -, -⟩ := id m10
          go_wp2_with fail
          refine (CS.out _ M10 L10).mono ?_; rintro e11 w11 ⟨rfl, b11⟩
          have B11 := ext_step B10 b11
          go_wp2_with fail
          go_ret
          exact ⟨rfl, B11⟩
        · have h1 : re = 18 := h1
          have h2 : getL ql mn = some v := h2
          subst h1
          rw [h2]
          clear h2
          go_wp2_with fail
          go_ret
          exact ⟨rfl, B9⟩
        · have h1 : re = 17 := h1
          subst h1
          have hx8 : ((x.length : Int) == 8) = true := by rw [beq_iff_eq]; omega
          clear h2
          generalize getL ql mn = go at *
          go_wp2_with fail
          go_ret
          exact ⟨rfl, B9⟩
        · have h1 : re = 10 := h1
          subst h1
          generalize getL ql mn = go at *
          go_wp2_with fail
          go_ret
          exact ⟨rfl, B9⟩
end Go.Proofs.YteiilmnehdbdiaaGreatDoor
