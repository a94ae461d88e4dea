/- Law 8's LabelOrder, walked. -/
import Derived.Test.YteiilmnehdbdiaaGreatDoorLabLawB
import Derived.Test.YteiilmnehdbdiaaGreatDoorLabU
import Derived.Test.YteiilmnehdbdiaaGreatDoorSameB
import Derived.Test.YteiilmnehdbdiaaGreatDoorLabG
import Derived.Deep.CutBlock
import Derived.Deep.DeepCutAuto
namespace Go.Proofs.YteiilmnehdbdiaaGreatDoor
open Go.RowKit
variable {Rd : World → Nat → Nat → Nat → List Int → Int → Prop}

set_option maxRecDepth 100000 in
theorem labelD_info : (Tryz.prog.info? 45).map (fun i => (i.zero, i.size, i.bytes)) = some (some (.agg #[.string ByteArray.empty, .string ByteArray.empty]), 2, 32) := by kernel_rfl
theorem great_szD {n : ByteArray} {x : List Lab} (h : ¬ GreatS n x) : n.size ≤ 300 ∧ x.length ≤ 100 ∧ ∀ l ∈ x, l.1.size ≤ 300 ∧ l.2.size ≤ 300 := by
  refine ⟨?_, ?_, fun l hl => ⟨?_, ?_⟩⟩
  · exact Nat.le_of_not_lt fun k => h (Or.inr (Or.inl k))
  · exact Nat.le_of_not_lt fun k => h (Or.inl k)
  · exact Nat.le_of_not_lt fun k => h (Or.inr (Or.inr ⟨l, hl, Or.inl k⟩))
  · exact Nat.le_of_not_lt fun k => h (Or.inr (Or.inr ⟨l, hl, Or.inr k⟩))
theorem cmpI_neg (n m : ByteArray) (x y : List Lab) : cmpI m n y x = -cmpI n m x y := by
  unfold cmpI
  rw [ordS_neg n m]
  by_cases h : ordS n m = 0
  · rw [h, if_neg (by simp), if_neg (by simp), cmpL_neg]
  · rw [if_pos (by omega), if_pos h]
theorem cmpI_bd (n m : ByteArray) (x y : List Lab) : -1 ≤ cmpI n m x y ∧ cmpI n m x y ≤ 1 := by
  unfold cmpI
  have h1 := ordS_bd n m
  have h2 := cmpL_bd x y
  split <;> omega
theorem cmpI_trans {n m p : ByteArray} {x y z : List Lab} (h1 : cmpI n m x y ≤ 0) (h2 : cmpI m p y z ≤ 0) : cmpI n p x z ≤ 0 := by
  unfold cmpI at h1 h2 ⊢
  by_cases e1 : ordS n m = 0
  · rw [if_neg (by rw [e1]; simp)] at h1
    obtain rfl := ordS_zero.1 e1
    by_cases e2 : ordS n p = 0
    · rw [if_neg (by rw [e2]; simp)] at h2 ⊢
      exact cmpL_trans h1 h2
    · rw [if_pos e2] at h2 ⊢
      exact h2
  · rw [if_pos e1] at h1
    have l1 : ltS n m = true := ordS_lt.1 (by rcases ordS_bd n m with h | h | h <;> omega)
    have l2 : ltS n p = true := by
      by_cases e2 : ordS m p = 0
      · obtain rfl := ordS_zero.1 e2; exact l1
      · rw [if_pos e2] at h2
        exact ltS_trans l1 (ordS_lt.1 (by rcases ordS_bd m p with h | h | h <;> omega))
    have l3 := ordS_lt.2 l2
    rw [if_pos (by omega), l3]
    decide
theorem same_text {n m : ByteArray} {x y : List Lab} (hx : IsRight n x) (hy : IsRight m y) (b : Bool) (hb : b = decide (n = m ∧ x = y)) : ((textS n x).toList == (textS m y).toList) = b := by
  subst hb
  by_cases h : n = m ∧ x = y
  · obtain ⟨rfl, rfl⟩ := h; simp
  · rw [decide_eq_false h]
    have h2 : (textS n x).toList ≠ (textS m y).toList := fun e => h (by
      have e2 := toList_one.1 e
      unfold textS at e2
      rw [if_pos hx, if_pos hy] at e2
      exact text_one hx hy e2)
    simpa using h2
theorem same_bytes {n m : ByteArray} {x y : List Lab} (hx : IsRight n x) (hy : IsRight m y) : decide (bytI n x = bytI m y) = decide (n = m ∧ x = y) := by
  rw [decide_eq_decide]
  unfold bytI
  rw [if_pos hx, if_pos hy]
  exact ⟨fun h => bytes_one hx hy h, fun ⟨h1, h2⟩ => by rw [h1, h2]⟩
theorem txt_len {s : ByteArray} (h : s.size ≤ 64) : (txtL s).length ≤ 74 := by
  unfold txtL
  have := leb_ten (n := s.size) (by omega)
  rw [List.length_append, strB_len]; omega
theorem labs_len : ∀ (x : List Lab), (∀ l ∈ x, l.1.size ≤ 64 ∧ l.2.size ≤ 64) → (labsL x).length ≤ 148 * x.length
  | [], _ => by simp [labsL]
  | l :: t, h => by
    have h1 := h l (List.mem_cons_self ..)
    have h2 := labs_len t fun m hm => h m (List.mem_cons_of_mem _ hm)
    have h3 := txt_len h1.1
    have h4 := txt_len h1.2
    rw [labsL, List.length_append, List.length_append, List.length_cons]; omega
theorem bytI_len {n : ByteArray} {x : List Lab} (h : IsRight n x) : (bytI n x).length ≤ 10000 := by
  unfold bytI bytesL
  rw [if_pos h]
  have h1 := txt_len h.1.2.1
  have h2 := labs_len x fun l hl => ⟨(h.2.2.1 l hl).1.2.1, (h.2.2.1 l hl).2.1⟩
  have h3 := leb_ten (n := x.length) (by have := h.2.1; omega)
  have := h.2.1
  rw [List.length_append, List.length_append]; omega

set_option maxRecDepth 100000 in
set_option maxHeartbeats 40000000 in
theorem labelOrder_any (G : LabC Rd) (R : RdC Rd) (n m p : ByteArray) (u v q : Value) (x y z : List Lab) (T : Int) (w : World) (L0 : Labs w w.heap.size u x) (L1 : Labs w w.heap.size v y) (L2 : Labs w w.heap.size q z) (_hT : Fits T) :
    Calls Tryz.prog 6 #[.agg #[.string n, u], .agg #[.string m, v], .agg #[.string p, q], .int .i64 T] w fun e w' => e = .returned (.bool true) ∧ Below w.heap.size w w' := by
  obtain ⟨i0, hi, hz0, hz1, hz2⟩ := info_parts labelD_info
  obtain ⟨A0, c0, rfl⟩ := L0.len
  obtain ⟨A1, c1, rfl⟩ := L1.len
  obtain ⟨A2, c2, rfl⟩ := L2.len
  have hW := ext_step (grew2 w (.cells #[.string n, .slice A0 x.length c0] 24) (.cells #[.string m, .slice A1 y.length c1] 24)) (grew1 _ (.cells #[.string p, .slice A2 z.length c2] 24))
  have aS := ((At2.new w (.string n) (.slice A0 x.length c0) 24).alloc (.cells #[.string m, .slice A1 y.length c1] 24)).alloc (.cells #[.string p, .slice A2 z.length c2] 24)
  have bS := (At2.new (w.alloc (.cells #[.string n, .slice A0 x.length c0] 24)) (.string m) (.slice A1 y.length c1) 24).alloc (.cells #[.string p, .slice A2 z.length c2] 24)
  have cS := At2.new ((w.alloc (.cells #[.string n, .slice A0 x.length c0] 24)).alloc (.cells #[.string m, .slice A1 y.length c1] 24)) (.string p) (.slice A2 z.length c2) 24
  rw [World.size_alloc] at bS cS
  rw [World.size_alloc] at cS
  have hX := (L0.below hW).more hW.size
  have hY := (L1.below hW).more hW.size
  have hZ := (L2.below hW).more hW.size
  have CA := Lib.hid fun W => alive8_any G R W
  have CG := Lib.hid fun n u x W h => great8_any n u x W h
  clear L0 L1 L2
  go_enter Tryz.func6, Tryz.ntmps6
  go_wp2_with fail
  generalize (((w.alloc (.cells #[.string n, .slice A0 x.length c0] 24)).alloc (.cells #[.string m, .slice A1 y.length c1] 24)).alloc (.cells #[.string p, .slice A2 z.length c2] 24)) = w3 at *
  have HS : Hid (∀ W, Below w3.heap.size w3 W → (W.cell? ⟨w.heap.size, 0, none⟩ = some (.string n) ∧ W.cell? ⟨w.heap.size, 1, none⟩ = some (.slice A0 x.length c0) ∧ W.cell? ⟨w.heap.size + 1, 0, none⟩ = some (.string m) ∧ W.cell? ⟨w.heap.size + 1, 1, none⟩ = some (.slice A1 y.length c1) ∧ W.cell? ⟨w.heap.size + 1 + 1, 0, none⟩ = some (.string p) ∧ W.cell? ⟨w.heap.size + 1 + 1, 1, none⟩ = some (.slice A2 z.length c2))) := Lib.hid fun W h =>
    ⟨(aS.below h).c0, (aS.below h).c1, (bS.below h).c0, (bS.below h).c1, (cS.below h).c0, (cS.below h).c1⟩
  have HX := Lib.hid fun W (h : Below w3.heap.size w3 W) => (hX.below h).more h.size
  have HY := Lib.hid fun W (h : Below w3.heap.size w3 W) => (hY.below h).more h.size
  have HZ := Lib.hid fun W (h : Below w3.heap.size w3 W) => (hZ.below h).more h.size
  have HB := Lib.hid fun W (h : Below w3.heap.size w3 W) => ext_step hW h
  have HA3 := Lib.hid aS.lt
  clear aS bS cS hX hY hZ hW
  refine (CA.out _).mono ?_; rintro e w4 ⟨rfl, K4⟩
  obtain ⟨s0, s1, t0, t1, r0, r1⟩ := HS.out _ K4
  go_wp2_with fail
  refine (CG.out n (.slice A0 x.length c0) x _ (HX.out _ K4)).mono ?_; rintro e w5 ⟨rfl, b5⟩
  have K5 := ext_step K4 b5
  clear b5 s0 s1 t0 t1 r0 r1
  obtain ⟨s0, s1, t0, t1, r0, r1⟩ := HS.out _ K5
  by_cases hg : GreatS n x
  · rw [decide_eq_true hg]
    go_wp2_with fail
    go_ret
    exact ⟨rfl, HB.out _ K5⟩
  rw [decide_eq_false hg]
  obtain ⟨g1, g2, g3⟩ := great_szD hg
  clear hg
  go_wp2_with fail
  refine (CG.out m (.slice A1 y.length c1) y _ (HY.out _ K5)).mono ?_; rintro e w6 ⟨rfl, b6⟩
  have K6 := ext_step K5 b6
  clear b6 s0 s1 t0 t1 r0 r1
  obtain ⟨s0, s1, t0, t1, r0, r1⟩ := HS.out _ K6
  by_cases hg : GreatS m y
  · rw [decide_eq_true hg]
    go_wp2_with fail
    go_ret
    exact ⟨rfl, HB.out _ K6⟩
  rw [decide_eq_false hg]
  obtain ⟨g4, g5, g6⟩ := great_szD hg
  clear hg
  go_wp2_with fail
  refine (CG.out p (.slice A2 z.length c2) z _ (HZ.out _ K6)).mono ?_; rintro e w7 ⟨rfl, b7⟩
  have K7 := ext_step K6 b7
  clear b7 s0 s1 t0 t1 r0 r1
  obtain ⟨s0, s1, t0, t1, r0, r1⟩ := HS.out _ K7
  by_cases hg : GreatS p z
  · rw [decide_eq_true hg]
    go_wp2_with fail
    go_ret
    exact ⟨rfl, HB.out _ K7⟩
  rw [decide_eq_false hg]
  obtain ⟨g7, g8, g9⟩ := great_szD hg
  clear hg
  have SX := Lib.hid fun W (h : Below w3.heap.size w3 W) => SerW.mk (n := n) (HX.out W h) (by omega) (by omega) fun l hl => by have := g3 l hl; omega
  have SY := Lib.hid fun W (h : Below w3.heap.size w3 W) => SerW.mk (n := m) (HY.out W h) (by omega) (by omega) fun l hl => by have := g6 l hl; omega
  have SZ := Lib.hid fun W (h : Below w3.heap.size w3 W) => SerW.mk (n := p) (HZ.out W h) (by omega) (by omega) fun l hl => by have := g9 l hl; omega
  have HG3 := Lib.hid g3
  clear g3 g4 g5 g6 g7 g8 g9
  have CXY := Lib.hid fun W h => G.compare n (.slice A0 x.length c0) x m (.slice A1 y.length c1) y W (SX.out W h) (SY.out W h)
  have CYZ := Lib.hid fun W h => G.compare m (.slice A1 y.length c1) y p (.slice A2 z.length c2) z W (SY.out W h) (SZ.out W h)
  have CYX := Lib.hid fun W h => G.compare m (.slice A1 y.length c1) y n (.slice A0 x.length c0) x W (SY.out W h) (SX.out W h)
  have CXX := Lib.hid fun W h => G.compare n (.slice A0 x.length c0) x n (.slice A0 x.length c0) x W (SX.out W h) (SX.out W h)
  have CXZ := Lib.hid fun W h => G.compare n (.slice A0 x.length c0) x p (.slice A2 z.length c2) z W (SX.out W h) (SZ.out W h)
  rw [cmpI_neg n m x y] at CYX
  rw [show cmpI n n x x = 0 from cmpI_zero.2 ⟨rfl, rfl⟩] at CXX
  have bX := cmpI_bd n m x y
  have bY := cmpI_bd m p y z
  have bZ := cmpI_bd n p x z
  have HTR : Hid (cmpI n m x y ≤ 0 → cmpI m p y z ≤ 0 → cmpI n p x z ≤ 0) := Lib.hid cmpI_trans
  have HX0 : Hid (decide (cmpI n m x y = 0) = decide (n = m ∧ x = y)) := Lib.hid (by rw [decide_eq_decide]; exact cmpI_zero)
  generalize cmpI n m x y = X at *
  generalize cmpI m p y z = Y at *
  generalize cmpI n p x z = Z at *
  go_wp2_with fail
  refine (CXY.out _ K7).mono ?_; rintro e w8 ⟨rfl, b8⟩
  have K8 := ext_step K7 b8
  clear b8 s0 s1 t0 t1 r0 r1
  obtain ⟨s0, s1, t0, t1, r0, r1⟩ := HS.out _ K8
  go_wp2_with fail
  refine (CYZ.out _ K8).mono ?_; rintro e w9 ⟨rfl, b9⟩
  have K9 := ext_step K8 b9
  clear b9 s0 s1 t0 t1 r0 r1
  obtain ⟨s0, s1, t0, t1, r0, r1⟩ := HS.out _ K9
  have x1 : ¬ X < -1 := by omega
  have x2 : ¬ 1 < X := by omega
  clear CXY CYZ
  go_upto_region 7 with fail
  go_cut [64] (fun e wx => e = .bool false ∧ Below w3.heap.size w3 wx)
  case first =>
    go_wp2_with fail
    refine (CYX.out _ K9).mono ?_; rintro e w10 ⟨rfl, b10⟩
    have K10 := ext_step K9 b10
    clear b10 s0 s1 t0 t1 r0 r1
    obtain ⟨s0, s1, t0, t1, r0, r1⟩ := HS.out _ K10
    go_wp2_with fail
    refine (CXX.out _ K10).mono ?_; rintro e w11 ⟨rfl, b11⟩
    have K11 := ext_step K10 b11
    clear b11 s0 s1 t0 t1 r0 r1
    obtain ⟨s0, s1, t0, t1, r0, r1⟩ := HS.out _ K11
    by_cases hx : X ≤ 0
    · by_cases hy : Y ≤ 0
      · have hz : ¬ 0 < Z := by have := HTR.out hx hy; omega
        go_wp2_with fail
        refine (CXZ.out _ K11).mono ?_; rintro e w12 ⟨rfl, b12⟩
        have K12 := ext_step K11 b12
        go_wp2_with fail
        go_meet
        exact ⟨by simp [x1, x2, hz], K12⟩
      · have hy1 : 0 < Y := by omega
        go_wp2_with fail
        go_meet
        exact ⟨by simp [x1, x2], K11⟩
    · have hx1 : 0 < X := by omega
      go_wp2_with fail
      go_meet
      exact ⟨by simp [x1, x2], K11⟩
  case rest =>
    obtain ⟨rfl, K10⟩ := hcut
    go_wp2_with fail
    clear s0 s1 t0 t1 r0 r1 K9 x1 x2 CYX CXX CXZ HTR
    have CRX := Lib.hid fun W h => G.right n (.slice A0 x.length c0) x W (SX.out W h)
    have CRY := Lib.hid fun W h => G.right m (.slice A1 y.length c1) y W (SY.out W h)
    go_cut [90] (fun e wx => e = .bool false ∧ Below w3.heap.size w3 wx)
    case first =>
      have K11 := K10.drew
      by_cases hrx : IsRight n x
      case neg =>
        rw [decide_eq_false hrx] at CRX
        clear CRY hrx
        refine wp_region_held_drew (S := fun w' => w'.cell? ⟨w.heap.size, 0, none⟩ = some (.string n) ∧ w'.cell? ⟨w.heap.size, 1, none⟩ = some (.slice A0 x.length c0) ∧ w'.cell? ⟨w.heap.size + 1, 0, none⟩ = some (.string m) ∧ w'.cell? ⟨w.heap.size + 1, 1, none⟩ = some (.slice A1 y.length c1)) (by kernel_rfl) ?_ (fun hHeld => ?_)
        · exact ⟨(HS.out _ K11).1, (HS.out _ K11).2.1, (HS.out _ K11).2.2.1, (HS.out _ K11).2.2.2.1⟩
        refine take_at (i := 0) (d := some 65) (v := ?_) rfl rfl (by kernel_rfl) (by kernel_rfl) (by kernel_rfl) (fun _ _ _ h => h) (Or.inl ⟨by rfl, ?hya1⟩) (by assumption) ?resta1
        case hya1 => (intro w hSw; (try dsimp only at hSw); go_simp; try with_reducible rfl)
        (try simp only [Act.put]); (try simp only [List.setIfInBounds_toArray]); (try simp only [List.set_cons_succ]); (try simp only [List.set_cons_zero])
        refine wpAnyH_ready (rs := [1]) (by kernel_rfl) (by simp) ?_
        refine AllReadyH.cons rfl (fun K hK => ?_) AllReadyH.nil
        go_simp
        refine (CRX.out _ K11).mono ?_; rintro e w12 ⟨rfl, b⟩
        have K12 := ext_step K11 b
        clear b
        try go_wp2_with fail
        refine hK.out _ _ ?_ (fun hHeld => ?_)
        · exact ⟨(HS.out _ K12).1, (HS.out _ K12).2.1, (HS.out _ K12).2.2.1, (HS.out _ K12).2.2.2.1⟩
        clear hK K
        (try simp only [Act.put]); (try simp only [List.setIfInBounds_toArray]); (try simp only [List.set_cons_succ]); (try simp only [List.set_cons_zero])
        refine take_at (i := 2) (d := some 67) (v := ?_) rfl rfl (by kernel_rfl) (by kernel_rfl) (by kernel_rfl) (fun _ _ _ h => h) (Or.inl ⟨by rfl, ?hya2⟩) (by assumption) ?resta2
        case hya2 => (intro w hSw; (try dsimp only at hSw); go_simp; try with_reducible rfl)
        (try simp only [Act.put]); (try simp only [List.setIfInBounds_toArray]); (try simp only [List.set_cons_succ]); (try simp only [List.set_cons_zero])
        refine take_at (i := 3) (d := some 68) (v := undef) rfl rfl (by kernel_rfl) (by kernel_rfl) (by kernel_rfl) (fun _ _ _ h => h) (Or.inr ⟨by rfl, rfl⟩) (by assumption) ?_
        (try simp only [Act.put]); (try simp only [List.setIfInBounds_toArray]); (try simp only [List.set_cons_succ]); (try simp only [List.set_cons_zero])
        refine take_at (i := 4) (d := some 69) (v := undef) rfl rfl (by kernel_rfl) (by kernel_rfl) (by kernel_rfl) (fun _ _ _ h => h) (Or.inr ⟨by rfl, rfl⟩) (by assumption) ?_
        (try simp only [Act.put]); (try simp only [List.setIfInBounds_toArray]); (try simp only [List.set_cons_succ]); (try simp only [List.set_cons_zero])
        refine take_at (i := 5) (d := some 70) (v := ?_) rfl rfl (by kernel_rfl) (by kernel_rfl) (by kernel_rfl) (fun _ _ _ h => h) (Or.inl ⟨by rfl, ?hya5⟩) (by assumption) ?resta5
        case hya5 => (intro w hSw; (try dsimp only at hSw); go_simp; try with_reducible rfl)
        (try simp only [Act.put]); (try simp only [List.setIfInBounds_toArray]); (try simp only [List.set_cons_succ]); (try simp only [List.set_cons_zero])
        refine take_at (i := 6) (d := some 71) (v := ?_) rfl rfl (by kernel_rfl) (by kernel_rfl) (by kernel_rfl) (fun _ _ _ h => h) (Or.inl ⟨by rfl, ?hya6⟩) (by assumption) ?resta6
        case hya6 => (intro w hSw; (try dsimp only at hSw); go_simp; try with_reducible rfl)
        (try simp only [Act.put]); (try simp only [List.setIfInBounds_toArray]); (try simp only [List.set_cons_succ]); (try simp only [List.set_cons_zero])
        refine take_at (i := 7) (d := some 72) (v := undef) rfl rfl (by kernel_rfl) (by kernel_rfl) (by kernel_rfl) (fun _ _ _ h => h) (Or.inr ⟨by rfl, rfl⟩) (by assumption) ?_
        (try simp only [Act.put]); (try simp only [List.setIfInBounds_toArray]); (try simp only [List.set_cons_succ]); (try simp only [List.set_cons_zero])
        refine take_at (i := 8) (d := some 73) (v := undef) rfl rfl (by kernel_rfl) (by kernel_rfl) (by kernel_rfl) (fun _ _ _ h => h) (Or.inr ⟨by rfl, rfl⟩) (by assumption) ?_
        (try simp only [Act.put]); (try simp only [List.setIfInBounds_toArray]); (try simp only [List.set_cons_succ]); (try simp only [List.set_cons_zero])
        refine take_at (i := 9) (d := some 74) (v := undef) rfl rfl (by kernel_rfl) (by kernel_rfl) (by kernel_rfl) (fun _ _ _ h => h) (Or.inr ⟨by rfl, rfl⟩) (by assumption) ?_
        (try simp only [Act.put]); (try simp only [List.setIfInBounds_toArray]); (try simp only [List.set_cons_succ]); (try simp only [List.set_cons_zero])
        refine take_at (i := 10) (d := some 75) (v := undef) rfl rfl (by kernel_rfl) (by kernel_rfl) (by kernel_rfl) (fun _ _ _ h => h) (Or.inr ⟨by rfl, rfl⟩) (by assumption) ?_
        (try simp only [Act.put]); (try simp only [List.setIfInBounds_toArray]); (try simp only [List.set_cons_succ]); (try simp only [List.set_cons_zero])
        refine take_at (i := 11) (d := some 76) (v := undef) rfl rfl (by kernel_rfl) (by kernel_rfl) (by kernel_rfl) (fun _ _ _ h => h) (Or.inr ⟨by rfl, rfl⟩) (by assumption) ?_
        (try simp only [Act.put]); (try simp only [List.setIfInBounds_toArray]); (try simp only [List.set_cons_succ]); (try simp only [List.set_cons_zero])
        refine take_at (i := 12) (d := some 77) (v := undef) rfl rfl (by kernel_rfl) (by kernel_rfl) (by kernel_rfl) (fun _ _ _ h => h) (Or.inr ⟨by rfl, rfl⟩) (by assumption) ?_
        (try simp only [Act.put]); (try simp only [List.setIfInBounds_toArray]); (try simp only [List.set_cons_succ]); (try simp only [List.set_cons_zero])
        refine take_at (i := 13) (d := some 78) (v := undef) rfl rfl (by kernel_rfl) (by kernel_rfl) (by kernel_rfl) (fun _ _ _ h => h) (Or.inr ⟨by rfl, rfl⟩) (by assumption) ?_
        (try simp only [Act.put]); (try simp only [List.setIfInBounds_toArray]); (try simp only [List.set_cons_succ]); (try simp only [List.set_cons_zero])
        refine take_at (i := 14) (d := some 79) (v := undef) rfl rfl (by kernel_rfl) (by kernel_rfl) (by kernel_rfl) (fun _ _ _ h => h) (Or.inr ⟨by rfl, rfl⟩) (by assumption) ?_
        (try simp only [Act.put]); (try simp only [List.setIfInBounds_toArray]); (try simp only [List.set_cons_succ]); (try simp only [List.set_cons_zero])
        refine take_at (i := 15) (d := some 80) (v := undef) rfl rfl (by kernel_rfl) (by kernel_rfl) (by kernel_rfl) (fun _ _ _ h => h) (Or.inr ⟨by rfl, rfl⟩) (by assumption) ?_
        (try simp only [Act.put]); (try simp only [List.setIfInBounds_toArray]); (try simp only [List.set_cons_succ]); (try simp only [List.set_cons_zero])
        refine take_at (i := 16) (d := some 81) (v := undef) rfl rfl (by kernel_rfl) (by kernel_rfl) (by kernel_rfl) (fun _ _ _ h => h) (Or.inr ⟨by rfl, rfl⟩) (by assumption) ?_
        (try simp only [Act.put]); (try simp only [List.setIfInBounds_toArray]); (try simp only [List.set_cons_succ]); (try simp only [List.set_cons_zero])
        refine take_at (i := 17) (d := some 82) (v := undef) rfl rfl (by kernel_rfl) (by kernel_rfl) (by kernel_rfl) (fun _ _ _ h => h) (Or.inr ⟨by rfl, rfl⟩) (by assumption) ?_
        (try simp only [Act.put]); (try simp only [List.setIfInBounds_toArray]); (try simp only [List.set_cons_succ]); (try simp only [List.set_cons_zero])
        refine take_at (i := 18) (d := some 83) (v := undef) rfl rfl (by kernel_rfl) (by kernel_rfl) (by kernel_rfl) (fun _ _ _ h => h) (Or.inr ⟨by rfl, rfl⟩) (by assumption) ?_
        (try simp only [Act.put]); (try simp only [List.setIfInBounds_toArray]); (try simp only [List.set_cons_succ]); (try simp only [List.set_cons_zero])
        refine take_at (i := 19) (d := some 84) (v := undef) rfl rfl (by kernel_rfl) (by kernel_rfl) (by kernel_rfl) (fun _ _ _ h => h) (Or.inr ⟨by rfl, rfl⟩) (by assumption) ?_
        (try simp only [Act.put]); (try simp only [List.setIfInBounds_toArray]); (try simp only [List.set_cons_succ]); (try simp only [List.set_cons_zero])
        refine take_at (i := 20) (d := some 85) (v := undef) rfl rfl (by kernel_rfl) (by kernel_rfl) (by kernel_rfl) (fun _ _ _ h => h) (Or.inr ⟨by rfl, rfl⟩) (by assumption) ?_
        (try simp only [Act.put]); (try simp only [List.setIfInBounds_toArray]); (try simp only [List.set_cons_succ]); (try simp only [List.set_cons_zero])
        refine take_at (i := 21) (d := some 86) (v := undef) rfl rfl (by kernel_rfl) (by kernel_rfl) (by kernel_rfl) (fun _ _ _ h => h) (Or.inr ⟨by rfl, rfl⟩) (by assumption) ?_
        (try simp only [Act.put]); (try simp only [List.setIfInBounds_toArray]); (try simp only [List.set_cons_succ]); (try simp only [List.set_cons_zero])
        refine take_at (i := 22) (d := some 87) (v := undef) rfl rfl (by kernel_rfl) (by kernel_rfl) (by kernel_rfl) (fun _ _ _ h => h) (Or.inr ⟨by rfl, rfl⟩) (by assumption) ?_
        (try simp only [Act.put]); (try simp only [List.setIfInBounds_toArray]); (try simp only [List.set_cons_succ]); (try simp only [List.set_cons_zero])
        refine take_at (i := 23) (d := some 88) (v := undef) rfl rfl (by kernel_rfl) (by kernel_rfl) (by kernel_rfl) (fun _ _ _ h => h) (Or.inr ⟨by rfl, rfl⟩) (by assumption) ?_
        (try simp only [Act.put]); (try simp only [List.setIfInBounds_toArray]); (try simp only [List.set_cons_succ]); (try simp only [List.set_cons_zero])
        refine take_at (i := 24) (d := some 89) (v := undef) rfl rfl (by kernel_rfl) (by kernel_rfl) (by kernel_rfl) (fun _ _ _ h => h) (Or.inr ⟨by rfl, rfl⟩) (by assumption) ?_
        (try simp only [Act.put]); (try simp only [List.setIfInBounds_toArray]); (try simp only [List.set_cons_succ]); (try simp only [List.set_cons_zero])
        refine take_at (i := 25) (d := some 90) (v := ?_) rfl rfl (by kernel_rfl) (by kernel_rfl) (by kernel_rfl) (fun _ _ _ h => h) (Or.inl ⟨by rfl, ?hya25⟩) (by assumption) ?resta25
        case hya25 => (intro w hSw; (try dsimp only at hSw); go_simp; try with_reducible rfl)
        (try simp only [Act.put]); (try simp only [List.setIfInBounds_toArray]); (try simp only [List.set_cons_succ]); (try simp only [List.set_cons_zero])
        refine wpAnyH_done (by kernel_rfl) ?_ _
        go_wp2_with fail
        go_meet
        exact ⟨by first | rfl | simp, K12⟩
      rw [decide_eq_true hrx] at CRX
      by_cases hry : IsRight m y
      case neg =>
        rw [decide_eq_false hry] at CRY
        clear hry hrx
        refine wp_region_held_drew (S := fun w' => w'.cell? ⟨w.heap.size, 0, none⟩ = some (.string n) ∧ w'.cell? ⟨w.heap.size, 1, none⟩ = some (.slice A0 x.length c0) ∧ w'.cell? ⟨w.heap.size + 1, 0, none⟩ = some (.string m) ∧ w'.cell? ⟨w.heap.size + 1, 1, none⟩ = some (.slice A1 y.length c1)) (by kernel_rfl) ?_ (fun hHeld => ?_)
        · exact ⟨(HS.out _ K11).1, (HS.out _ K11).2.1, (HS.out _ K11).2.2.1, (HS.out _ K11).2.2.2.1⟩
        refine take_at (i := 0) (d := some 65) (v := ?_) rfl rfl (by kernel_rfl) (by kernel_rfl) (by kernel_rfl) (fun _ _ _ h => h) (Or.inl ⟨by rfl, ?hyb1⟩) (by assumption) ?restb1
        case hyb1 => (intro w hSw; (try dsimp only at hSw); go_simp; try with_reducible rfl)
        (try simp only [Act.put]); (try simp only [List.setIfInBounds_toArray]); (try simp only [List.set_cons_succ]); (try simp only [List.set_cons_zero])
        refine wpAnyH_ready (rs := [1]) (by kernel_rfl) (by simp) ?_
        refine AllReadyH.cons rfl (fun K hK => ?_) AllReadyH.nil
        go_simp
        refine (CRX.out _ K11).mono ?_; rintro e w12 ⟨rfl, b⟩
        have K12 := ext_step K11 b
        clear b
        try go_wp2_with fail
        refine hK.out _ _ ?_ (fun hHeld => ?_)
        · exact ⟨(HS.out _ K12).1, (HS.out _ K12).2.1, (HS.out _ K12).2.2.1, (HS.out _ K12).2.2.2.1⟩
        clear hK K
        (try simp only [Act.put]); (try simp only [List.setIfInBounds_toArray]); (try simp only [List.set_cons_succ]); (try simp only [List.set_cons_zero])
        refine take_at (i := 2) (d := some 67) (v := ?_) rfl rfl (by kernel_rfl) (by kernel_rfl) (by kernel_rfl) (fun _ _ _ h => h) (Or.inl ⟨by rfl, ?hyb2⟩) (by assumption) ?restb2
        case hyb2 => (intro w hSw; (try dsimp only at hSw); go_simp; try with_reducible rfl)
        (try simp only [Act.put]); (try simp only [List.setIfInBounds_toArray]); (try simp only [List.set_cons_succ]); (try simp only [List.set_cons_zero])
        refine take_at (i := 3) (d := some 68) (v := ?_) rfl rfl (by kernel_rfl) (by kernel_rfl) (by kernel_rfl) (fun _ _ _ h => h) (Or.inl ⟨by rfl, ?hyb3⟩) (by assumption) ?restb3
        case hyb3 => (intro w hSw; (try dsimp only at hSw); go_simp; try with_reducible rfl)
        (try simp only [Act.put]); (try simp only [List.setIfInBounds_toArray]); (try simp only [List.set_cons_succ]); (try simp only [List.set_cons_zero])
        refine wpAnyH_ready (rs := [4]) (by kernel_rfl) (by simp) ?_
        refine AllReadyH.cons rfl (fun K hK => ?_) AllReadyH.nil
        go_simp
        refine (CRY.out _ K12).mono ?_; rintro e w13 ⟨rfl, b⟩
        have K13 := ext_step K12 b
        clear b
        try go_wp2_with fail
        refine hK.out _ _ ?_ (fun hHeld => ?_)
        · exact ⟨(HS.out _ K13).1, (HS.out _ K13).2.1, (HS.out _ K13).2.2.1, (HS.out _ K13).2.2.2.1⟩
        clear hK K
        (try simp only [Act.put]); (try simp only [List.setIfInBounds_toArray]); (try simp only [List.set_cons_succ]); (try simp only [List.set_cons_zero])
        refine take_at (i := 5) (d := some 70) (v := ?_) rfl rfl (by kernel_rfl) (by kernel_rfl) (by kernel_rfl) (fun _ _ _ h => h) (Or.inl ⟨by rfl, ?hyb4⟩) (by assumption) ?restb4
        case hyb4 => (intro w hSw; (try dsimp only at hSw); go_simp; try with_reducible rfl)
        (try simp only [Act.put]); (try simp only [List.setIfInBounds_toArray]); (try simp only [List.set_cons_succ]); (try simp only [List.set_cons_zero])
        refine take_at (i := 6) (d := some 71) (v := ?_) rfl rfl (by kernel_rfl) (by kernel_rfl) (by kernel_rfl) (fun _ _ _ h => h) (Or.inl ⟨by rfl, ?hyb5⟩) (by assumption) ?restb5
        case hyb5 => (intro w hSw; (try dsimp only at hSw); go_simp; try with_reducible rfl)
        (try simp only [Act.put]); (try simp only [List.setIfInBounds_toArray]); (try simp only [List.set_cons_succ]); (try simp only [List.set_cons_zero])
        refine take_at (i := 7) (d := some 72) (v := undef) rfl rfl (by kernel_rfl) (by kernel_rfl) (by kernel_rfl) (fun _ _ _ h => h) (Or.inr ⟨by rfl, rfl⟩) (by assumption) ?_
        (try simp only [Act.put]); (try simp only [List.setIfInBounds_toArray]); (try simp only [List.set_cons_succ]); (try simp only [List.set_cons_zero])
        refine take_at (i := 8) (d := some 73) (v := undef) rfl rfl (by kernel_rfl) (by kernel_rfl) (by kernel_rfl) (fun _ _ _ h => h) (Or.inr ⟨by rfl, rfl⟩) (by assumption) ?_
        (try simp only [Act.put]); (try simp only [List.setIfInBounds_toArray]); (try simp only [List.set_cons_succ]); (try simp only [List.set_cons_zero])
        refine take_at (i := 9) (d := some 74) (v := undef) rfl rfl (by kernel_rfl) (by kernel_rfl) (by kernel_rfl) (fun _ _ _ h => h) (Or.inr ⟨by rfl, rfl⟩) (by assumption) ?_
        (try simp only [Act.put]); (try simp only [List.setIfInBounds_toArray]); (try simp only [List.set_cons_succ]); (try simp only [List.set_cons_zero])
        refine take_at (i := 10) (d := some 75) (v := undef) rfl rfl (by kernel_rfl) (by kernel_rfl) (by kernel_rfl) (fun _ _ _ h => h) (Or.inr ⟨by rfl, rfl⟩) (by assumption) ?_
        (try simp only [Act.put]); (try simp only [List.setIfInBounds_toArray]); (try simp only [List.set_cons_succ]); (try simp only [List.set_cons_zero])
        refine take_at (i := 11) (d := some 76) (v := undef) rfl rfl (by kernel_rfl) (by kernel_rfl) (by kernel_rfl) (fun _ _ _ h => h) (Or.inr ⟨by rfl, rfl⟩) (by assumption) ?_
        (try simp only [Act.put]); (try simp only [List.setIfInBounds_toArray]); (try simp only [List.set_cons_succ]); (try simp only [List.set_cons_zero])
        refine take_at (i := 12) (d := some 77) (v := undef) rfl rfl (by kernel_rfl) (by kernel_rfl) (by kernel_rfl) (fun _ _ _ h => h) (Or.inr ⟨by rfl, rfl⟩) (by assumption) ?_
        (try simp only [Act.put]); (try simp only [List.setIfInBounds_toArray]); (try simp only [List.set_cons_succ]); (try simp only [List.set_cons_zero])
        refine take_at (i := 13) (d := some 78) (v := undef) rfl rfl (by kernel_rfl) (by kernel_rfl) (by kernel_rfl) (fun _ _ _ h => h) (Or.inr ⟨by rfl, rfl⟩) (by assumption) ?_
        (try simp only [Act.put]); (try simp only [List.setIfInBounds_toArray]); (try simp only [List.set_cons_succ]); (try simp only [List.set_cons_zero])
        refine take_at (i := 14) (d := some 79) (v := undef) rfl rfl (by kernel_rfl) (by kernel_rfl) (by kernel_rfl) (fun _ _ _ h => h) (Or.inr ⟨by rfl, rfl⟩) (by assumption) ?_
        (try simp only [Act.put]); (try simp only [List.setIfInBounds_toArray]); (try simp only [List.set_cons_succ]); (try simp only [List.set_cons_zero])
        refine take_at (i := 15) (d := some 80) (v := undef) rfl rfl (by kernel_rfl) (by kernel_rfl) (by kernel_rfl) (fun _ _ _ h => h) (Or.inr ⟨by rfl, rfl⟩) (by assumption) ?_
        (try simp only [Act.put]); (try simp only [List.setIfInBounds_toArray]); (try simp only [List.set_cons_succ]); (try simp only [List.set_cons_zero])
        refine take_at (i := 16) (d := some 81) (v := undef) rfl rfl (by kernel_rfl) (by kernel_rfl) (by kernel_rfl) (fun _ _ _ h => h) (Or.inr ⟨by rfl, rfl⟩) (by assumption) ?_
        (try simp only [Act.put]); (try simp only [List.setIfInBounds_toArray]); (try simp only [List.set_cons_succ]); (try simp only [List.set_cons_zero])
        refine take_at (i := 17) (d := some 82) (v := undef) rfl rfl (by kernel_rfl) (by kernel_rfl) (by kernel_rfl) (fun _ _ _ h => h) (Or.inr ⟨by rfl, rfl⟩) (by assumption) ?_
        (try simp only [Act.put]); (try simp only [List.setIfInBounds_toArray]); (try simp only [List.set_cons_succ]); (try simp only [List.set_cons_zero])
        refine take_at (i := 18) (d := some 83) (v := undef) rfl rfl (by kernel_rfl) (by kernel_rfl) (by kernel_rfl) (fun _ _ _ h => h) (Or.inr ⟨by rfl, rfl⟩) (by assumption) ?_
        (try simp only [Act.put]); (try simp only [List.setIfInBounds_toArray]); (try simp only [List.set_cons_succ]); (try simp only [List.set_cons_zero])
        refine take_at (i := 19) (d := some 84) (v := undef) rfl rfl (by kernel_rfl) (by kernel_rfl) (by kernel_rfl) (fun _ _ _ h => h) (Or.inr ⟨by rfl, rfl⟩) (by assumption) ?_
        (try simp only [Act.put]); (try simp only [List.setIfInBounds_toArray]); (try simp only [List.set_cons_succ]); (try simp only [List.set_cons_zero])
        refine take_at (i := 20) (d := some 85) (v := undef) rfl rfl (by kernel_rfl) (by kernel_rfl) (by kernel_rfl) (fun _ _ _ h => h) (Or.inr ⟨by rfl, rfl⟩) (by assumption) ?_
        (try simp only [Act.put]); (try simp only [List.setIfInBounds_toArray]); (try simp only [List.set_cons_succ]); (try simp only [List.set_cons_zero])
        refine take_at (i := 21) (d := some 86) (v := undef) rfl rfl (by kernel_rfl) (by kernel_rfl) (by kernel_rfl) (fun _ _ _ h => h) (Or.inr ⟨by rfl, rfl⟩) (by assumption) ?_
        (try simp only [Act.put]); (try simp only [List.setIfInBounds_toArray]); (try simp only [List.set_cons_succ]); (try simp only [List.set_cons_zero])
        refine take_at (i := 22) (d := some 87) (v := undef) rfl rfl (by kernel_rfl) (by kernel_rfl) (by kernel_rfl) (fun _ _ _ h => h) (Or.inr ⟨by rfl, rfl⟩) (by assumption) ?_
        (try simp only [Act.put]); (try simp only [List.setIfInBounds_toArray]); (try simp only [List.set_cons_succ]); (try simp only [List.set_cons_zero])
        refine take_at (i := 23) (d := some 88) (v := undef) rfl rfl (by kernel_rfl) (by kernel_rfl) (by kernel_rfl) (fun _ _ _ h => h) (Or.inr ⟨by rfl, rfl⟩) (by assumption) ?_
        (try simp only [Act.put]); (try simp only [List.setIfInBounds_toArray]); (try simp only [List.set_cons_succ]); (try simp only [List.set_cons_zero])
        refine take_at (i := 24) (d := some 89) (v := undef) rfl rfl (by kernel_rfl) (by kernel_rfl) (by kernel_rfl) (fun _ _ _ h => h) (Or.inr ⟨by rfl, rfl⟩) (by assumption) ?_
        (try simp only [Act.put]); (try simp only [List.setIfInBounds_toArray]); (try simp only [List.set_cons_succ]); (try simp only [List.set_cons_zero])
        refine take_at (i := 25) (d := some 90) (v := ?_) rfl rfl (by kernel_rfl) (by kernel_rfl) (by kernel_rfl) (fun _ _ _ h => h) (Or.inl ⟨by rfl, ?hyb24⟩) (by assumption) ?restb24
        case hyb24 => (intro w hSw; (try dsimp only at hSw); go_simp; try with_reducible rfl)
        (try simp only [Act.put]); (try simp only [List.setIfInBounds_toArray]); (try simp only [List.set_cons_succ]); (try simp only [List.set_cons_zero])
        refine wpAnyH_done (by kernel_rfl) ?_ _
        go_wp2_with fail
        go_meet
        exact ⟨by first | rfl | simp, K13⟩
      rw [decide_eq_true hry] at CRY
      have CTX := Lib.hid fun W h => G.text n (.slice A0 x.length c0) x W (SX.out W h)
      have CTY := Lib.hid fun W h => G.text m (.slice A1 y.length c1) y W (SY.out W h)
      have CBX := Lib.hid fun W h => G.bytes n (.slice A0 x.length c0) x W (SX.out W h)
      have CBY := Lib.hid fun W h => G.bytes m (.slice A1 y.length c1) y W (SY.out W h)
      have q1 := same_text hrx hry _ HX0.out
      have q2 := same_bytes hrx hry
      rw [← HX0.out] at q2
      have l1 := bytI_len hrx
      have l2 := bytI_len hry
      have q3 : (X == 0) = decide (X = 0) := by rw [Bool.eq_iff_iff]; simp
      have CSB := Lib.hid fun u v W h1 h2 => sameB_all u v (bytI n x) (bytI m y) W h1 h2 (by omega) (by omega)
      rw [q2] at CSB
      generalize decide (X = 0) = bq at *
      clear q2 hrx hry l1 l2 HX0
      generalize textS n x = tX at *
      generalize textS m y = tY at *
      generalize bytI n x = bX at *
      generalize bytI m y = bY at *
      refine wp_region_held_drew (S := fun w' => w'.cell? ⟨w.heap.size, 0, none⟩ = some (.string n) ∧ w'.cell? ⟨w.heap.size, 1, none⟩ = some (.slice A0 x.length c0) ∧ w'.cell? ⟨w.heap.size + 1, 0, none⟩ = some (.string m) ∧ w'.cell? ⟨w.heap.size + 1, 1, none⟩ = some (.slice A1 y.length c1)) (by kernel_rfl) ?_ (fun hHeld => ?_)
      · exact ⟨(HS.out _ K11).1, (HS.out _ K11).2.1, (HS.out _ K11).2.2.1, (HS.out _ K11).2.2.2.1⟩
      refine take_at (i := 0) (d := some 65) (v := ?_) rfl rfl (by kernel_rfl) (by kernel_rfl) (by kernel_rfl) (fun _ _ _ h => h) (Or.inl ⟨by rfl, ?hyc1⟩) (by assumption) ?restc1
      case hyc1 => (intro w hSw; (try dsimp only at hSw); go_simp; try with_reducible rfl)
      (try simp only [Act.put]); (try simp only [List.setIfInBounds_toArray]); (try simp only [List.set_cons_succ]); (try simp only [List.set_cons_zero])
      refine wpAnyH_ready (rs := [1]) (by kernel_rfl) (by simp) ?_
      refine AllReadyH.cons rfl (fun K hK => ?_) AllReadyH.nil
      go_simp
      refine (CRX.out _ K11).mono ?_; rintro e w12 ⟨rfl, b⟩
      have K12 := ext_step K11 b
      clear b
      try go_wp2_with fail
      refine hK.out _ _ ?_ (fun hHeld => ?_)
      · exact ⟨(HS.out _ K12).1, (HS.out _ K12).2.1, (HS.out _ K12).2.2.1, (HS.out _ K12).2.2.2.1⟩
      clear hK K
      (try simp only [Act.put]); (try simp only [List.setIfInBounds_toArray]); (try simp only [List.set_cons_succ]); (try simp only [List.set_cons_zero])
      refine take_at (i := 2) (d := some 67) (v := ?_) rfl rfl (by kernel_rfl) (by kernel_rfl) (by kernel_rfl) (fun _ _ _ h => h) (Or.inl ⟨by rfl, ?hyc2⟩) (by assumption) ?restc2
      case hyc2 => (intro w hSw; (try dsimp only at hSw); go_simp; try with_reducible rfl)
      (try simp only [Act.put]); (try simp only [List.setIfInBounds_toArray]); (try simp only [List.set_cons_succ]); (try simp only [List.set_cons_zero])
      refine take_at (i := 3) (d := some 68) (v := ?_) rfl rfl (by kernel_rfl) (by kernel_rfl) (by kernel_rfl) (fun _ _ _ h => h) (Or.inl ⟨by rfl, ?hyc3⟩) (by assumption) ?restc3
      case hyc3 => (intro w hSw; (try dsimp only at hSw); go_simp; try with_reducible rfl)
      (try simp only [Act.put]); (try simp only [List.setIfInBounds_toArray]); (try simp only [List.set_cons_succ]); (try simp only [List.set_cons_zero])
      refine wpAnyH_ready (rs := [4]) (by kernel_rfl) (by simp) ?_
      refine AllReadyH.cons rfl (fun K hK => ?_) AllReadyH.nil
      go_simp
      refine (CRY.out _ K12).mono ?_; rintro e w13 ⟨rfl, b⟩
      have K13 := ext_step K12 b
      clear b
      try go_wp2_with fail
      refine hK.out _ _ ?_ (fun hHeld => ?_)
      · exact ⟨(HS.out _ K13).1, (HS.out _ K13).2.1, (HS.out _ K13).2.2.1, (HS.out _ K13).2.2.2.1⟩
      clear hK K
      (try simp only [Act.put]); (try simp only [List.setIfInBounds_toArray]); (try simp only [List.set_cons_succ]); (try simp only [List.set_cons_zero])
      refine take_at (i := 5) (d := some 70) (v := ?_) rfl rfl (by kernel_rfl) (by kernel_rfl) (by kernel_rfl) (fun _ _ _ h => h) (Or.inl ⟨by rfl, ?hyc4⟩) (by assumption) ?restc4
      case hyc4 => (intro w hSw; (try dsimp only at hSw); go_simp; try with_reducible rfl)
      (try simp only [Act.put]); (try simp only [List.setIfInBounds_toArray]); (try simp only [List.set_cons_succ]); (try simp only [List.set_cons_zero])
      refine take_at (i := 6) (d := some 71) (v := ?_) rfl rfl (by kernel_rfl) (by kernel_rfl) (by kernel_rfl) (fun _ _ _ h => h) (Or.inl ⟨by rfl, ?hyc5⟩) (by assumption) ?restc5
      case hyc5 => (intro w hSw; (try dsimp only at hSw); go_simp; try with_reducible rfl)
      (try simp only [Act.put]); (try simp only [List.setIfInBounds_toArray]); (try simp only [List.set_cons_succ]); (try simp only [List.set_cons_zero])
      refine take_at (i := 7) (d := some 72) (v := ?_) rfl rfl (by kernel_rfl) (by kernel_rfl) (by kernel_rfl) (fun _ _ _ h => h) (Or.inl ⟨by rfl, ?hyc6⟩) (by assumption) ?restc6
      case hyc6 => (intro w hSw; (try dsimp only at hSw); go_simp; try with_reducible rfl)
      (try simp only [Act.put]); (try simp only [List.setIfInBounds_toArray]); (try simp only [List.set_cons_succ]); (try simp only [List.set_cons_zero])
      refine take_at (i := 8) (d := some 73) (v := ?_) rfl rfl (by kernel_rfl) (by kernel_rfl) (by kernel_rfl) (fun _ _ _ h => h) (Or.inl ⟨by rfl, ?hyc7⟩) (by assumption) ?restc7
      case hyc7 => (intro w hSw; (try dsimp only at hSw); go_simp; try with_reducible rfl)
      (try simp only [Act.put]); (try simp only [List.setIfInBounds_toArray]); (try simp only [List.set_cons_succ]); (try simp only [List.set_cons_zero])
      refine take_at (i := 9) (d := some 74) (v := ?_) rfl rfl (by kernel_rfl) (by kernel_rfl) (by kernel_rfl) (fun _ _ _ h => h) (Or.inl ⟨by rfl, ?hyc8⟩) (by assumption) ?restc8
      case hyc8 => (intro w hSw; (try dsimp only at hSw); go_simp; try with_reducible rfl)
      (try simp only [Act.put]); (try simp only [List.setIfInBounds_toArray]); (try simp only [List.set_cons_succ]); (try simp only [List.set_cons_zero])
      refine take_at (i := 11) (d := some 76) (v := ?_) rfl rfl (by kernel_rfl) (by kernel_rfl) (by kernel_rfl) (fun _ _ _ h => h) (Or.inl ⟨by rfl, ?hyc9⟩) (by assumption) ?restc9
      case hyc9 => (intro w hSw; (try dsimp only at hSw); go_simp; try with_reducible rfl)
      (try simp only [Act.put]); (try simp only [List.setIfInBounds_toArray]); (try simp only [List.set_cons_succ]); (try simp only [List.set_cons_zero])
      refine wpAnyH_ready (rs := [10]) (by kernel_rfl) (by simp) ?_
      refine AllReadyH.cons rfl (fun K hK => ?_) AllReadyH.nil
      go_simp
      refine (CTX.out _ K13).mono ?_; rintro e w14 ⟨rfl, b⟩
      have K14 := ext_step K13 b
      clear b
      try go_wp2_with fail
      refine hK.out _ _ ?_ (fun hHeld => ?_)
      · exact ⟨(HS.out _ K14).1, (HS.out _ K14).2.1, (HS.out _ K14).2.2.1, (HS.out _ K14).2.2.2.1⟩
      clear hK K
      (try simp only [Act.put]); (try simp only [List.setIfInBounds_toArray]); (try simp only [List.set_cons_succ]); (try simp only [List.set_cons_zero])
      refine wpAnyH_ready (rs := [12]) (by kernel_rfl) (by simp) ?_
      refine AllReadyH.cons rfl (fun K hK => ?_) AllReadyH.nil
      go_simp
      refine (CTY.out _ K14).mono ?_; rintro e w15 ⟨rfl, b⟩
      have K15 := ext_step K14 b
      clear b
      try go_wp2_with fail
      refine hK.out _ _ ?_ (fun hHeld => ?_)
      · exact ⟨(HS.out _ K15).1, (HS.out _ K15).2.1, (HS.out _ K15).2.2.1, (HS.out _ K15).2.2.2.1⟩
      clear hK K
      (try simp only [Act.put]); (try simp only [List.setIfInBounds_toArray]); (try simp only [List.set_cons_succ]); (try simp only [List.set_cons_zero])
      refine take_at (i := 13) (d := some 78) (v := ?_) rfl rfl (by kernel_rfl) (by kernel_rfl) (by kernel_rfl) (fun _ _ _ h => h) (Or.inl ⟨by rfl, ?hyc10⟩) (by assumption) ?restc10
      case hyc10 => (intro w hSw; (try dsimp only at hSw); go_simp; try with_reducible rfl)
      (try simp only [Act.put]); (try simp only [List.setIfInBounds_toArray]); (try simp only [List.set_cons_succ]); (try simp only [List.set_cons_zero])
      refine take_at (i := 14) (d := some 79) (v := ?_) rfl rfl (by kernel_rfl) (by kernel_rfl) (by kernel_rfl) (fun _ _ _ h => h) (Or.inl ⟨by rfl, ?hyc11⟩) (by assumption) ?restc11
      case hyc11 => (intro w hSw; (try dsimp only at hSw); go_simp; try with_reducible rfl)
      (try simp only [Act.put]); (try simp only [List.setIfInBounds_toArray]); (try simp only [List.set_cons_succ]); (try simp only [List.set_cons_zero])
      refine take_at (i := 15) (d := some 80) (v := ?_) rfl rfl (by kernel_rfl) (by kernel_rfl) (by kernel_rfl) (fun _ _ _ h => h) (Or.inl ⟨by rfl, ?hyc12⟩) (by assumption) ?restc12
      case hyc12 => (intro w hSw; (try dsimp only at hSw); go_simp; try with_reducible rfl)
      (try simp only [Act.put]); (try simp only [List.setIfInBounds_toArray]); (try simp only [List.set_cons_succ]); (try simp only [List.set_cons_zero])
      refine take_at (i := 16) (d := some 81) (v := ?_) rfl rfl (by kernel_rfl) (by kernel_rfl) (by kernel_rfl) (fun _ _ _ h => h) (Or.inl ⟨by rfl, ?hyc13⟩) (by assumption) ?restc13
      case hyc13 => (intro w hSw; (try dsimp only at hSw); go_simp; try with_reducible rfl)
      (try simp only [Act.put]); (try simp only [List.setIfInBounds_toArray]); (try simp only [List.set_cons_succ]); (try simp only [List.set_cons_zero])
      refine take_at (i := 17) (d := some 82) (v := ?_) rfl rfl (by kernel_rfl) (by kernel_rfl) (by kernel_rfl) (fun _ _ _ h => h) (Or.inl ⟨by rfl, ?hyc14⟩) (by assumption) ?restc14
      case hyc14 => (intro w hSw; (try dsimp only at hSw); go_simp; try with_reducible rfl)
      (try simp only [Act.put]); (try simp only [List.setIfInBounds_toArray]); (try simp only [List.set_cons_succ]); (try simp only [List.set_cons_zero])
      refine take_at (i := 18) (d := some 83) (v := ?_) rfl rfl (by kernel_rfl) (by kernel_rfl) (by kernel_rfl) (fun _ _ _ h => h) (Or.inl ⟨by rfl, ?hyc15⟩) (by assumption) ?restc15
      case hyc15 => (intro w hSw; (try dsimp only at hSw); go_simp; try with_reducible rfl)
      (try simp only [Act.put]); (try simp only [List.setIfInBounds_toArray]); (try simp only [List.set_cons_succ]); (try simp only [List.set_cons_zero])
      refine take_at (i := 20) (d := some 85) (v := ?_) rfl rfl (by kernel_rfl) (by kernel_rfl) (by kernel_rfl) (fun _ _ _ h => h) (Or.inl ⟨by rfl, ?hyc16⟩) (by assumption) ?restc16
      case hyc16 => (intro w hSw; (try dsimp only at hSw); go_simp; try with_reducible rfl)
      (try simp only [Act.put]); (try simp only [List.setIfInBounds_toArray]); (try simp only [List.set_cons_succ]); (try simp only [List.set_cons_zero])
      refine wpAnyH_ready (rs := [19]) (by kernel_rfl) (by simp) ?_
      refine AllReadyH.cons rfl (fun K hK => ?_) AllReadyH.nil
      go_simp
      refine (CBX.out _ K15).mono ?_; rintro e w16 ⟨vp, rfl, Lp, b⟩
      have K16 := ext_step K15 b
      clear b
      try go_wp2_with fail
      refine hK.out _ _ ?_ (fun hHeld => ?_)
      · exact ⟨(HS.out _ K16).1, (HS.out _ K16).2.1, (HS.out _ K16).2.2.1, (HS.out _ K16).2.2.2.1⟩
      clear hK K
      (try simp only [Act.put]); (try simp only [List.setIfInBounds_toArray]); (try simp only [List.set_cons_succ]); (try simp only [List.set_cons_zero])
      refine wpAnyH_ready (rs := [21]) (by kernel_rfl) (by simp) ?_
      refine AllReadyH.cons rfl (fun K hK => ?_) AllReadyH.nil
      go_simp
      refine (CBY.out _ K16).mono ?_; rintro e w17 ⟨vq, rfl, Lq, b⟩
      have K17 := ext_step K16 b
      have Lp := (Lp.below b).more b.size
      clear b
      try go_wp2_with fail
      refine hK.out _ _ ?_ (fun hHeld => ?_)
      · exact ⟨(HS.out _ K17).1, (HS.out _ K17).2.1, (HS.out _ K17).2.2.1, (HS.out _ K17).2.2.2.1⟩
      clear hK K
      (try simp only [Act.put]); (try simp only [List.setIfInBounds_toArray]); (try simp only [List.set_cons_succ]); (try simp only [List.set_cons_zero])
      refine wpAnyH_ready (rs := [22]) (by kernel_rfl) (by simp) ?_
      refine AllReadyH.cons rfl (fun K hK => ?_) AllReadyH.nil
      go_simp
      refine (CSB.out _ _ _ Lp Lq).mono ?_; rintro e w18 ⟨rfl, nq, rfl⟩
      have K18 := ext_drewN K17 nq
      try go_wp2_with fail
      refine hK.out _ _ ?_ (fun hHeld => ?_)
      · exact ⟨(HS.out _ K18).1, (HS.out _ K18).2.1, (HS.out _ K18).2.2.1, (HS.out _ K18).2.2.2.1⟩
      clear hK K
      (try simp only [Act.put]); (try simp only [List.setIfInBounds_toArray]); (try simp only [List.set_cons_succ]); (try simp only [List.set_cons_zero])
      refine take_at (i := 23) (d := some 88) (v := ?_) rfl rfl (by kernel_rfl) (by kernel_rfl) (by kernel_rfl) (fun _ _ _ h => h) (Or.inl ⟨by rfl, ?hyc17⟩) (by assumption) ?restc17
      case hyc17 => (intro w hSw; (try dsimp only at hSw); go_simp; try with_reducible rfl)
      (try simp only [Act.put]); (try simp only [List.setIfInBounds_toArray]); (try simp only [List.set_cons_succ]); (try simp only [List.set_cons_zero])
      refine take_at (i := 24) (d := some 89) (v := ?_) rfl rfl (by kernel_rfl) (by kernel_rfl) (by kernel_rfl) (fun _ _ _ h => h) (Or.inl ⟨by rfl, ?hyc18⟩) (by assumption) ?restc18
      case hyc18 => (intro w hSw; (try dsimp only at hSw); go_simp; try with_reducible rfl)
      (try simp only [Act.put]); (try simp only [List.setIfInBounds_toArray]); (try simp only [List.set_cons_succ]); (try simp only [List.set_cons_zero])
      refine take_at (i := 25) (d := some 90) (v := ?_) rfl rfl (by kernel_rfl) (by kernel_rfl) (by kernel_rfl) (fun _ _ _ h => h) (Or.inl ⟨by rfl, ?hyc19⟩) (by assumption) ?restc19
      case hyc19 => (intro w hSw; (try dsimp only at hSw); go_simp; try with_reducible rfl)
      (try simp only [Act.put]); (try simp only [List.setIfInBounds_toArray]); (try simp only [List.set_cons_succ]); (try simp only [List.set_cons_zero])
      refine wpAnyH_done (by kernel_rfl) ?_ _
      go_wp2_with fail
      go_meet
      exact ⟨by first | rfl | simp, K18⟩
    case rest =>
      obtain ⟨rfl, K11⟩ := hcut
      obtain ⟨s0, s1, t0, t1, r0, r1⟩ := HS.out _ K11
      clear K10 CRY HX0
      go_wp2_with fail
      refine (CRX.out _ K11).mono ?_; rintro e w12 ⟨rfl, b12⟩
      have K12 := ext_step K11 b12
      clear b12 s0 s1 t0 t1 r0 r1 K11 CRX
      obtain ⟨s0, s1, t0, t1, r0, r1⟩ := HS.out _ K12
      by_cases hrx : IsRight n x
      case neg =>
        rw [decide_eq_false hrx]
        go_wp2_with fail
        go_ret
        exact ⟨rfl, HB.out _ K12⟩
      rw [decide_eq_true hrx]
      by_cases hT0 : T < 0
      · go_wp2_with fail
        go_ret
        exact ⟨rfl, HB.out _ K12⟩
      by_cases hT1 : (x.length : Int) < T
      · go_wp2_with fail
        go_ret
        exact ⟨rfl, HB.out _ K12⟩
      obtain ⟨k, rfl⟩ := Int.eq_ofNat_of_zero_le (by omega : 0 ≤ T)
      have hk : k ≤ x.length := by omega
      have hcap : x.length ≤ c0 := by obtain ⟨_, _, e, h, _⟩ := HX.out _ K12; injection e with _ _ e; omega
      have kc : (k : Int) ≤ (c0 : Int) := by omega
      have k0 : (0 : Int) ≤ (k : Int) := by omega
      have kl : (k : Int) ≤ (x.length : Int) := by omega
      have CM := Lib.hid fun v W (h : Labs W W.heap.size v (x.drop k ++ x.take k)) => G.make n v (x.drop k ++ x.take k) W ⟨h, by omega, by rw [(turned_perm x k).length_eq]; omega, fun l hl => by
        have := HG3.out l ((turned_perm x k).mem_iff.1 hl); omega⟩
      rw [makeE_one hrx (turned_perm x k)] at CM
      have CS := Lib.hid fun v W (h : SerW W n v x) (h2 : SerW W n (.slice A0 x.length c0) x) => same8_any n n v (.slice A0 x.length c0) x x W h h2
      rw [show decide (n = n ∧ x = x) = true from decide_eq_true ⟨rfl, rfl⟩] at CS
      have hSZ : Hid (∀ W v, Labs W W.heap.size v x → SerW W n v x) := Lib.hid fun W v h => ⟨h, by omega, by omega, fun l hl => by have := HG3.out l hl; omega⟩
      clear hrx
      go_wp2_with fail
      clear s0 s1 t0 t1 r0 r1
      have hal := HA3.out
      go_cut [11, 12] (fun d f wx => ∃ gz A9 c9, d = .pointer (some ⟨gz, 0, none⟩) ∧ f = .int .i64 0 ∧ At2 wx gz (.string n) (.slice A9 x.length c9) ∧ Labs wx wx.heap.size (.slice A9 x.length c9) x ∧ Below w12.heap.size w12 wx)
      case first =>
        have K9 : Below w12.heap.size w12 w12.drew := (Below.refl _ _).drew
        have HS2 : Hid (∀ W', Below w12.heap.size w12 W' → W'.cell? ⟨w.heap.size, 0, none⟩ = some (.string n) ∧ W'.cell? ⟨w.heap.size, 1, none⟩ = some (.slice A0 x.length c0)) := Lib.hid fun W' h => ⟨(HS.out _ (ext_step K12 h)).1, (HS.out _ (ext_step K12 h)).2.1⟩
        refine wp_region_held_drew (S := fun w' => w'.cell? ⟨w.heap.size, 0, none⟩ = some (.string n) ∧ w'.cell? ⟨w.heap.size, 1, none⟩ = some (.slice A0 x.length c0)) (by kernel_rfl) ?_ (fun hHeld => ?_)
        · exact HS2.out _ K9
        generalize w12.drew = w9 at *
        refine take_at (i := 0) (d := some 106) (v := ?_) rfl rfl (by kernel_rfl) (by kernel_rfl) (by kernel_rfl) (fun _ _ _ h => h) (Or.inl ⟨by rfl, ?hyh1⟩) (by assumption) ?resth1
        case hyh1 => (intro w hSw; (try dsimp only at hSw); go_simp; try with_reducible rfl)
        (try simp only [Act.put]); (try simp only [List.setIfInBounds_toArray]); (try simp only [List.set_cons_succ]); (try simp only [List.set_cons_zero])
        refine take_at (i := 1) (d := some 107) (v := ?_) rfl rfl (by kernel_rfl) (by kernel_rfl) (by kernel_rfl) (fun _ _ _ h => h) (Or.inl ⟨by rfl, ?hyh2⟩) (by assumption) ?resth2
        case hyh2 => (intro w hSw; (try dsimp only at hSw); go_simp; try with_reducible rfl)
        (try simp only [Act.put]); (try simp only [List.setIfInBounds_toArray]); (try simp only [List.set_cons_succ]); (try simp only [List.set_cons_zero])
        refine take_at (i := 3) (d := some 109) (v := ?_) rfl rfl (by kernel_rfl) (by kernel_rfl) (by kernel_rfl) (fun _ _ _ h => h) (Or.inl ⟨by rfl, ?hyh3⟩) (by assumption) ?resth3
        case hyh3 => (intro w hSw; (try dsimp only at hSw); go_simp; try with_reducible rfl)
        (try simp only [Act.put]); (try simp only [List.setIfInBounds_toArray]); (try simp only [List.set_cons_succ]); (try simp only [List.set_cons_zero])
        refine take_at (i := 4) (d := some 110) (v := ?_) rfl rfl (by kernel_rfl) (by kernel_rfl) (by kernel_rfl) (fun _ _ _ h => h) (Or.inl ⟨by rfl, ?hyh4⟩) (by assumption) ?resth4
        case hyh4 => (intro w hSw; (try dsimp only at hSw); go_simp; try with_reducible rfl)
        (try simp only [Act.put]); (try simp only [List.setIfInBounds_toArray]); (try simp only [List.set_cons_succ]); (try simp only [List.set_cons_zero])
        refine take_at (i := 5) (d := some 111) (v := ?_) rfl rfl (by kernel_rfl) (by kernel_rfl) (by kernel_rfl) (fun _ _ _ h => h) (Or.inl ⟨by rfl, ?hyh5⟩) (by assumption) ?resth5
        case hyh5 => (intro w hSw; (try dsimp only at hSw); go_simp; try with_reducible rfl)
        (try simp only [Act.put]); (try simp only [List.setIfInBounds_toArray]); (try simp only [List.set_cons_succ]); (try simp only [List.set_cons_zero])
        refine take_at (i := 6) (d := some 112) (v := Value.slice (cutA A0 c0 k) (x.length - k) (c0 - k)) rfl rfl (by kernel_rfl) (by kernel_rfl) (by kernel_rfl) (fun _ _ _ h => h) (Or.inl ⟨by rfl, ?hyh6⟩) (by assumption) ?resth6
        case hyh6 => (intro w hSw; (try dsimp only at hSw); go_simp; try rfl)
        (try simp only [Act.put]); (try simp only [List.setIfInBounds_toArray]); (try simp only [List.set_cons_succ]); (try simp only [List.set_cons_zero])
        refine take_at (i := 8) (d := some 114) (v := ?_) rfl rfl (by kernel_rfl) (by kernel_rfl) (by kernel_rfl) (fun _ _ _ h => h) (Or.inl ⟨by rfl, ?hyh7⟩) (by assumption) ?resth7
        case hyh7 => (intro w hSw; (try dsimp only at hSw); go_simp; try with_reducible rfl)
        (try simp only [Act.put]); (try simp only [List.setIfInBounds_toArray]); (try simp only [List.set_cons_succ]); (try simp only [List.set_cons_zero])
        refine take_at (i := 9) (d := some 115) (v := ?_) rfl rfl (by kernel_rfl) (by kernel_rfl) (by kernel_rfl) (fun _ _ _ h => h) (Or.inl ⟨by rfl, ?hyh8⟩) (by assumption) ?resth8
        case hyh8 => (intro w hSw; (try dsimp only at hSw); go_simp; try with_reducible rfl)
        (try simp only [Act.put]); (try simp only [List.setIfInBounds_toArray]); (try simp only [List.set_cons_succ]); (try simp only [List.set_cons_zero])
        refine take_at (i := 10) (d := some 116) (v := ?_) rfl rfl (by kernel_rfl) (by kernel_rfl) (by kernel_rfl) (fun _ _ _ h => h) (Or.inl ⟨by rfl, ?hyh9⟩) (by assumption) ?resth9
        case hyh9 => (intro w hSw; (try dsimp only at hSw); go_simp; try with_reducible rfl)
        (try simp only [Act.put]); (try simp only [List.setIfInBounds_toArray]); (try simp only [List.set_cons_succ]); (try simp only [List.set_cons_zero])
        refine take_at (i := 11) (d := some 117) (v := ?_) rfl rfl (by kernel_rfl) (by kernel_rfl) (by kernel_rfl) (fun _ _ _ h => h) (Or.inl ⟨by rfl, ?hyh10⟩) (by assumption) ?resth10
        case hyh10 => (intro w hSw; (try dsimp only at hSw); go_simp; try with_reducible rfl)
        (try simp only [Act.put]); (try simp only [List.setIfInBounds_toArray]); (try simp only [List.set_cons_succ]); (try simp only [List.set_cons_zero])
        refine wpAnyH_ready (rs := [2, 17]) (by kernel_rfl) (by simp) ?_
        refine AllReadyH.cons rfl (fun K hK => ?_) (AllReadyH.cons rfl (fun K hK => ?_) AllReadyH.nil)
        · have kb := grew1 w9 (.cells #[] 45)
          have K9i := ext_step K9 kb
          have o9i := OwnB.empty 45 w9
          have hb2 : w12.heap.size ≤ w9.heap.size := K9.size
          have hb3 := kb.size
          generalize hgb : w9.heap.size = gb at *
          go_simp
          change K _ (w9.alloc (.cells #[] 45))
          generalize w9.alloc (.cells #[] 45) = w9i at *
          clear hgb kb
          refine hK.out _ _ ?_ (fun hHeld => ?_)
          · exact HS2.out _ K9i
          clear hK K
          (try simp only [Act.put]); (try simp only [List.setIfInBounds_toArray]); (try simp only [List.set_cons_succ]); (try simp only [List.set_cons_zero])
          refine wpAnyH_ready (rs := [7, 17]) (by kernel_rfl) (by simp) ?_
          refine AllReadyH.cons rfl (fun K hK => ?_) (AllReadyH.cons rfl (fun K hK => ?_) AllReadyH.nil)
          · have hsb : gb ≤ w9i.heap.size := Nat.le_of_lt (World.ownsRow.lt o9i gb rfl).2
            refine step_append_cells2 _ rfl (.tmp 108) (.tmp 112) 22 rfl gb 45 i0 (.agg #[.string ByteArray.empty, .string ByteArray.empty]) 2 32 Tryz.underlying22 hi hz0 hz1 hz2 rfl (by decide) _ 0 [] rfl o9i (cutA A0 c0 k) (x.length - k) (c0 - k) (cellsB (x.drop k)) rfl (by rw [cellsB_length, List.length_drop]) ((HX.out _ (ext_step K12 K9i)).tail_src hk fun _ _ => rfl) (cellsB_one _) (by unfold maxLen; omega) (by omega) hsb ?_
            intro v5 w9ia hr hgw hob
            rw [← List.length_drop] at hr
            obtain ⟨o9ia, hq⟩ := own_join (hs := x.drop k) o9i hsb hr hgw
            rw [List.nil_append] at o9ia
            have K9ia := K9i.trans (hq.mono (by omega))
            have hsb := Nat.le_trans hsb hq.size
            clear hr hgw hob hq
            refine hK.out _ _ ?_ (fun hHeld => ?_)
            · exact HS2.out _ K9ia
            clear hK K
            (try simp only [Act.put]); (try simp only [List.setIfInBounds_toArray]); (try simp only [List.set_cons_succ]); (try simp only [List.set_cons_zero])
            refine wpAnyH_ready (rs := [12, 17]) (by kernel_rfl) (by simp) ?_
            refine AllReadyH.cons rfl (fun K hK => ?_) (AllReadyH.cons rfl (fun K hK => ?_) AllReadyH.nil)
            · have hdl : (x.drop k).length = x.length - k := List.length_drop
              have htl : (x.take k).length = k := by rw [List.length_take]; omega
              refine step_append_cells2 _ rfl (.tmp 113) (.tmp 117) 22 rfl gb 45 i0 (.agg #[.string ByteArray.empty, .string ByteArray.empty]) 2 32 Tryz.underlying22 hi hz0 hz1 hz2 rfl (by decide) _ (x.drop k).length (cellsB (x.drop k)) rfl o9ia A0 k c0 (cellsB (x.take k)) rfl (by rw [cellsB_length, htl]) ((HX.out _ (ext_step K12 K9ia)).head_src hk fun _ _ => rfl) (cellsB_one _) (by unfold maxLen; omega) (by omega) hsb ?_
              intro v8 w9iab hr hgw hob
              have hr := (congrArg (fun e => w9iab.ownsRow gb 45 2 v8 ((x.drop k).length + e) (cellsB (x.drop k) ++ cellsB (x.take k))) htl.symm).mp hr
              obtain ⟨o9iab, hq⟩ := own_join (hs := x.take k) o9ia hsb hr hgw
              have K9iab := K9ia.trans (hq.mono (by omega))
              clear hr hgw hob hq
              refine hK.out _ _ ?_ (fun hHeld => ?_)
              · exact HS2.out _ K9iab
              clear hK K
              (try simp only [Act.put]); (try simp only [List.setIfInBounds_toArray]); (try simp only [List.set_cons_succ]); (try simp only [List.set_cons_zero])
              refine wpAnyH_ready (rs := [13, 17]) (by kernel_rfl) (by simp) ?_
              refine AllReadyH.cons rfl (fun K hK => ?_) (AllReadyH.cons rfl (fun K hK => ?_) AllReadyH.nil)
              · go_simp
                refine (CM.out _ _ o9iab.labs).mono ?_; rintro e9 w9iabm ⟨v9, rfl, L9, b9, hab⟩
                obtain ⟨A9, c9, rfl⟩ := L9.len
                have K9iabm := ext_step K9iab b9
                try go_wp2_with fail
                refine hK.out _ _ ?_ (fun hHeld => ?_)
                · exact HS2.out _ K9iabm
                clear hK K
                (try simp only [Act.put]); (try simp only [List.setIfInBounds_toArray]); (try simp only [List.set_cons_succ]); (try simp only [List.set_cons_zero])
                refine take_at (i := 14) (d := some 105) (v := ?_) rfl rfl (by kernel_rfl) (by kernel_rfl) (by kernel_rfl) (fun _ _ _ h => h) (Or.inl ⟨by rfl, ?hyh11⟩) (by assumption) ?resth11
                case hyh11 => (intro w hSw; (try dsimp only at hSw); go_simp; try with_reducible rfl)
                (try simp only [Act.put]); (try simp only [List.setIfInBounds_toArray]); (try simp only [List.set_cons_succ]); (try simp only [List.set_cons_zero])
                refine take_at (i := 15) (d := some 120) (v := ?_) rfl rfl (by kernel_rfl) (by kernel_rfl) (by kernel_rfl) (fun _ _ _ h => h) (Or.inl ⟨by rfl, ?hyh12⟩) (by assumption) ?resth12
                case hyh12 => (intro w hSw; (try dsimp only at hSw); go_simp; try with_reducible rfl)
                (try simp only [Act.put]); (try simp only [List.setIfInBounds_toArray]); (try simp only [List.set_cons_succ]); (try simp only [List.set_cons_zero])
                refine take_at (i := 16) (d := some 121) (v := ?_) rfl rfl (by kernel_rfl) (by kernel_rfl) (by kernel_rfl) (fun _ _ _ h => h) (Or.inl ⟨by rfl, ?hyh13⟩) (by assumption) ?resth13
                case hyh13 => (intro w hSw; (try dsimp only at hSw); go_simp; try with_reducible rfl)
                (try simp only [Act.put]); (try simp only [List.setIfInBounds_toArray]); (try simp only [List.set_cons_succ]); (try simp only [List.set_cons_zero])
                refine wpAnyH_ready (rs := [17]) (by kernel_rfl) (by simp) ?_
                refine AllReadyH.cons rfl (fun K hK => ?_) AllReadyH.nil
                have kb := grew1 w9iabm (.cells #[.string ByteArray.empty, .slice none 0 0] 24)
                have K9iabmz := ext_step K9iabm kb
                have hzk : w12.heap.size ≤ w9iabm.heap.size := K9iabm.size
                have z9iabmz := At2.new w9iabm (.string ByteArray.empty) (.slice none 0 0) 24
                have L9 := L9.below kb
                generalize hgz : w9iabm.heap.size = gz at *
                go_simp
                change K _ (w9iabm.alloc (.cells #[.string ByteArray.empty, .slice none 0 0] 24))
                generalize w9iabm.alloc (.cells #[.string ByteArray.empty, .slice none 0 0] 24) = w9iabmz at *
                clear hgz kb
                refine hK.out _ _ ?_ (fun hHeld => ?_)
                · exact HS2.out _ K9iabmz
                clear hK K
                (try simp only [Act.put]); (try simp only [List.setIfInBounds_toArray]); (try simp only [List.set_cons_succ]); (try simp only [List.set_cons_zero])
                refine wpAnyH_ready (rs := [18]) (by kernel_rfl) (by simp) ?_
                refine AllReadyH.cons rfl (fun K hK => ?_) AllReadyH.nil
                have zE := (z9iabmz.set0 (.string n)).set1 (.slice A9 x.length c9)
                have LE := ((L9.below ((Below.refl gz _).setCell (p := ⟨gz, 0, none⟩) (Nat.le_refl _) (.string n))).below ((Below.refl gz _).setCell (p := ⟨gz, 1, none⟩) (Nat.le_refl _) (.slice A9 x.length c9))).more (show gz ≤ ((w9iabmz.setCell ⟨gz, 0, none⟩ (.string n)).setCell ⟨gz, 1, none⟩ (.slice A9 x.length c9)).heap.size by have := z9iabmz.lt; simp; omega)
                have K9iabmzs := (K9iabmz.setCell (p := ⟨gz, 0, none⟩) hzk (.string n)).setCell (p := ⟨gz, 1, none⟩) hzk (.slice A9 x.length c9)
                obtain ⟨y0, y1, y2, y3⟩ := id z9iabmz
                go_simp
                clear y0 y1 y2 y3
                refine hK.out _ _ ?_ (fun hHeld => ?_)
                · exact HS2.out _ K9iabmzs
                clear hK K
                (try simp only [Act.put]); (try simp only [List.setIfInBounds_toArray]); (try simp only [List.set_cons_succ]); (try simp only [List.set_cons_zero])
                refine take_at (i := 19) (d := some 12) (v := ?_) rfl rfl (by kernel_rfl) (by kernel_rfl) (by kernel_rfl) (fun _ _ _ h => h) (Or.inl ⟨by rfl, ?hyh14⟩) (by assumption) ?resth14
                case hyh14 => (intro w hSw; (try dsimp only at hSw); go_simp; try with_reducible rfl)
                (try simp only [Act.put]); (try simp only [List.setIfInBounds_toArray]); (try simp only [List.set_cons_succ]); (try simp only [List.set_cons_zero])
                refine wpAnyH_done (by kernel_rfl) ?_ _
                go_wp2_with fail
                go_meet
                exact ⟨gz, A9, c9, rfl, rfl, zE, LE, K9iabmzs⟩
              · have kb := grew1 w9iab (.cells #[.string ByteArray.empty, .slice none 0 0] 24)
                have K9iabz := ext_step K9iab kb
                have hzk : w12.heap.size ≤ w9iab.heap.size := K9iab.size
                have z9iabz := At2.new w9iab (.string ByteArray.empty) (.slice none 0 0) 24
                have hz := apart_new o9iab
                have o9iabz := o9iab.below kb
                generalize hgz : w9iab.heap.size = gz at *
                go_simp
                change K _ (w9iab.alloc (.cells #[.string ByteArray.empty, .slice none 0 0] 24))
                generalize w9iab.alloc (.cells #[.string ByteArray.empty, .slice none 0 0] 24) = w9iabz at *
                clear hgz kb
                refine hK.out _ _ ?_ (fun hHeld => ?_)
                · exact HS2.out _ K9iabz
                clear hK K
                (try simp only [Act.put]); (try simp only [List.setIfInBounds_toArray]); (try simp only [List.set_cons_succ]); (try simp only [List.set_cons_zero])
                refine wpAnyH_ready (rs := [13]) (by kernel_rfl) (by simp) ?_
                refine AllReadyH.cons rfl (fun K hK => ?_) AllReadyH.nil
                go_simp
                refine (CM.out _ _ o9iabz.labs).mono ?_; rintro e9 w9iabzm ⟨v9, rfl, L9, b9, hab⟩
                obtain ⟨A9, c9, rfl⟩ := L9.len
                have K9iabzm := ext_step K9iabz b9
                have hzl := z9iabz.lt
                have z9iabzm := z9iabz.below b9
                try go_wp2_with fail
                refine hK.out _ _ ?_ (fun hHeld => ?_)
                · exact HS2.out _ K9iabzm
                clear hK K
                (try simp only [Act.put]); (try simp only [List.setIfInBounds_toArray]); (try simp only [List.set_cons_succ]); (try simp only [List.set_cons_zero])
                refine take_at (i := 14) (d := some 105) (v := ?_) rfl rfl (by kernel_rfl) (by kernel_rfl) (by kernel_rfl) (fun _ _ _ h => h) (Or.inl ⟨by rfl, ?hyh15⟩) (by assumption) ?resth15
                case hyh15 => (intro w hSw; (try dsimp only at hSw); go_simp; try with_reducible rfl)
                (try simp only [Act.put]); (try simp only [List.setIfInBounds_toArray]); (try simp only [List.set_cons_succ]); (try simp only [List.set_cons_zero])
                refine take_at (i := 15) (d := some 120) (v := ?_) rfl rfl (by kernel_rfl) (by kernel_rfl) (by kernel_rfl) (fun _ _ _ h => h) (Or.inl ⟨by rfl, ?hyh16⟩) (by assumption) ?resth16
                case hyh16 => (intro w hSw; (try dsimp only at hSw); go_simp; try with_reducible rfl)
                (try simp only [Act.put]); (try simp only [List.setIfInBounds_toArray]); (try simp only [List.set_cons_succ]); (try simp only [List.set_cons_zero])
                refine take_at (i := 16) (d := some 121) (v := ?_) rfl rfl (by kernel_rfl) (by kernel_rfl) (by kernel_rfl) (fun _ _ _ h => h) (Or.inl ⟨by rfl, ?hyh17⟩) (by assumption) ?resth17
                case hyh17 => (intro w hSw; (try dsimp only at hSw); go_simp; try with_reducible rfl)
                (try simp only [Act.put]); (try simp only [List.setIfInBounds_toArray]); (try simp only [List.set_cons_succ]); (try simp only [List.set_cons_zero])
                refine wpAnyH_ready (rs := [18]) (by kernel_rfl) (by simp) ?_
                refine AllReadyH.cons rfl (fun K hK => ?_) AllReadyH.nil
                have zE := (z9iabzm.set0 (.string n)).set1 (.slice A9 x.length c9)
                have LE : Labs _ ((w9iabzm.setCell ⟨gz, 0, none⟩ (.string n)).setCell ⟨gz, 1, none⟩ (.slice A9 x.length c9)).heap.size _ x := ((L9.awayNew hab (p := ⟨gz, 0, none⟩) hzl (.string n)).awayNew hab (p := ⟨gz, 1, none⟩) hzl (.slice A9 x.length c9)).more (by simp)
                have K9iabzms := (K9iabzm.setCell (p := ⟨gz, 0, none⟩) hzk (.string n)).setCell (p := ⟨gz, 1, none⟩) hzk (.slice A9 x.length c9)
                obtain ⟨y0, y1, y2, y3⟩ := id z9iabzm
                go_simp
                clear y0 y1 y2 y3
                refine hK.out _ _ ?_ (fun hHeld => ?_)
                · exact HS2.out _ K9iabzms
                clear hK K
                (try simp only [Act.put]); (try simp only [List.setIfInBounds_toArray]); (try simp only [List.set_cons_succ]); (try simp only [List.set_cons_zero])
                refine take_at (i := 19) (d := some 12) (v := ?_) rfl rfl (by kernel_rfl) (by kernel_rfl) (by kernel_rfl) (fun _ _ _ h => h) (Or.inl ⟨by rfl, ?hyh18⟩) (by assumption) ?resth18
                case hyh18 => (intro w hSw; (try dsimp only at hSw); go_simp; try with_reducible rfl)
                (try simp only [Act.put]); (try simp only [List.setIfInBounds_toArray]); (try simp only [List.set_cons_succ]); (try simp only [List.set_cons_zero])
                refine wpAnyH_done (by kernel_rfl) ?_ _
                go_wp2_with fail
                go_meet
                exact ⟨gz, A9, c9, rfl, rfl, zE, LE, K9iabzms⟩
            · have kb := grew1 w9ia (.cells #[.string ByteArray.empty, .slice none 0 0] 24)
              have K9iaz := ext_step K9ia kb
              have hzk : w12.heap.size ≤ w9ia.heap.size := K9ia.size
              have z9iaz := At2.new w9ia (.string ByteArray.empty) (.slice none 0 0) 24
              have hz := apart_new o9ia
              have o9iaz := o9ia.below kb
              have hsb := Nat.le_trans hsb kb.size
              generalize hgz : w9ia.heap.size = gz at *
              go_simp
              change K _ (w9ia.alloc (.cells #[.string ByteArray.empty, .slice none 0 0] 24))
              generalize w9ia.alloc (.cells #[.string ByteArray.empty, .slice none 0 0] 24) = w9iaz at *
              clear hgz kb
              refine hK.out _ _ ?_ (fun hHeld => ?_)
              · exact HS2.out _ K9iaz
              clear hK K
              (try simp only [Act.put]); (try simp only [List.setIfInBounds_toArray]); (try simp only [List.set_cons_succ]); (try simp only [List.set_cons_zero])
              refine wpAnyH_ready (rs := [12]) (by kernel_rfl) (by simp) ?_
              refine AllReadyH.cons rfl (fun K hK => ?_) AllReadyH.nil
              have hdl : (x.drop k).length = x.length - k := List.length_drop
              have htl : (x.take k).length = k := by rw [List.length_take]; omega
              refine step_append_cells2 _ rfl (.tmp 113) (.tmp 117) 22 rfl gb 45 i0 (.agg #[.string ByteArray.empty, .string ByteArray.empty]) 2 32 Tryz.underlying22 hi hz0 hz1 hz2 rfl (by decide) _ (x.drop k).length (cellsB (x.drop k)) rfl o9iaz A0 k c0 (cellsB (x.take k)) rfl (by rw [cellsB_length, htl]) ((HX.out _ (ext_step K12 K9iaz)).head_src hk fun _ _ => rfl) (cellsB_one _) (by unfold maxLen; omega) (by omega) hsb ?_
              intro v8 w9iazb hr hgw hob
              have hr := (congrArg (fun e => w9iazb.ownsRow gb 45 2 v8 ((x.drop k).length + e) (cellsB (x.drop k) ++ cellsB (x.take k))) htl.symm).mp hr
              obtain ⟨o9iazb, hq⟩ := own_join (hs := x.take k) o9iaz hsb hr hgw
              have K9iazb := K9iaz.trans (hq.mono (by omega))
              have z9iazb := z9iaz.grown hgw hz
              have hz := apart_join hz z9iaz.lt hob
              clear hr hgw hob hq
              refine hK.out _ _ ?_ (fun hHeld => ?_)
              · exact HS2.out _ K9iazb
              clear hK K
              (try simp only [Act.put]); (try simp only [List.setIfInBounds_toArray]); (try simp only [List.set_cons_succ]); (try simp only [List.set_cons_zero])
              refine wpAnyH_ready (rs := [13]) (by kernel_rfl) (by simp) ?_
              refine AllReadyH.cons rfl (fun K hK => ?_) AllReadyH.nil
              go_simp
              refine (CM.out _ _ o9iazb.labs).mono ?_; rintro e9 w9iazbm ⟨v9, rfl, L9, b9, hab⟩
              obtain ⟨A9, c9, rfl⟩ := L9.len
              have K9iazbm := ext_step K9iazb b9
              have hzl := z9iazb.lt
              have z9iazbm := z9iazb.below b9
              try go_wp2_with fail
              refine hK.out _ _ ?_ (fun hHeld => ?_)
              · exact HS2.out _ K9iazbm
              clear hK K
              (try simp only [Act.put]); (try simp only [List.setIfInBounds_toArray]); (try simp only [List.set_cons_succ]); (try simp only [List.set_cons_zero])
              refine take_at (i := 14) (d := some 105) (v := ?_) rfl rfl (by kernel_rfl) (by kernel_rfl) (by kernel_rfl) (fun _ _ _ h => h) (Or.inl ⟨by rfl, ?hyh19⟩) (by assumption) ?resth19
              case hyh19 => (intro w hSw; (try dsimp only at hSw); go_simp; try with_reducible rfl)
              (try simp only [Act.put]); (try simp only [List.setIfInBounds_toArray]); (try simp only [List.set_cons_succ]); (try simp only [List.set_cons_zero])
              refine take_at (i := 15) (d := some 120) (v := ?_) rfl rfl (by kernel_rfl) (by kernel_rfl) (by kernel_rfl) (fun _ _ _ h => h) (Or.inl ⟨by rfl, ?hyh20⟩) (by assumption) ?resth20
              case hyh20 => (intro w hSw; (try dsimp only at hSw); go_simp; try with_reducible rfl)
              (try simp only [Act.put]); (try simp only [List.setIfInBounds_toArray]); (try simp only [List.set_cons_succ]); (try simp only [List.set_cons_zero])
              refine take_at (i := 16) (d := some 121) (v := ?_) rfl rfl (by kernel_rfl) (by kernel_rfl) (by kernel_rfl) (fun _ _ _ h => h) (Or.inl ⟨by rfl, ?hyh21⟩) (by assumption) ?resth21
              case hyh21 => (intro w hSw; (try dsimp only at hSw); go_simp; try with_reducible rfl)
              (try simp only [Act.put]); (try simp only [List.setIfInBounds_toArray]); (try simp only [List.set_cons_succ]); (try simp only [List.set_cons_zero])
              refine wpAnyH_ready (rs := [18]) (by kernel_rfl) (by simp) ?_
              refine AllReadyH.cons rfl (fun K hK => ?_) AllReadyH.nil
              have zE := (z9iazbm.set0 (.string n)).set1 (.slice A9 x.length c9)
              have LE : Labs _ ((w9iazbm.setCell ⟨gz, 0, none⟩ (.string n)).setCell ⟨gz, 1, none⟩ (.slice A9 x.length c9)).heap.size _ x := ((L9.awayNew hab (p := ⟨gz, 0, none⟩) hzl (.string n)).awayNew hab (p := ⟨gz, 1, none⟩) hzl (.slice A9 x.length c9)).more (by simp)
              have K9iazbms := (K9iazbm.setCell (p := ⟨gz, 0, none⟩) hzk (.string n)).setCell (p := ⟨gz, 1, none⟩) hzk (.slice A9 x.length c9)
              obtain ⟨y0, y1, y2, y3⟩ := id z9iazbm
              go_simp
              clear y0 y1 y2 y3
              refine hK.out _ _ ?_ (fun hHeld => ?_)
              · exact HS2.out _ K9iazbms
              clear hK K
              (try simp only [Act.put]); (try simp only [List.setIfInBounds_toArray]); (try simp only [List.set_cons_succ]); (try simp only [List.set_cons_zero])
              refine take_at (i := 19) (d := some 12) (v := ?_) rfl rfl (by kernel_rfl) (by kernel_rfl) (by kernel_rfl) (fun _ _ _ h => h) (Or.inl ⟨by rfl, ?hyh22⟩) (by assumption) ?resth22
              case hyh22 => (intro w hSw; (try dsimp only at hSw); go_simp; try with_reducible rfl)
              (try simp only [Act.put]); (try simp only [List.setIfInBounds_toArray]); (try simp only [List.set_cons_succ]); (try simp only [List.set_cons_zero])
              refine wpAnyH_done (by kernel_rfl) ?_ _
              go_wp2_with fail
              go_meet
              exact ⟨gz, A9, c9, rfl, rfl, zE, LE, K9iazbms⟩
          · have kb := grew1 w9i (.cells #[.string ByteArray.empty, .slice none 0 0] 24)
            have K9iz := ext_step K9i kb
            have hzk : w12.heap.size ≤ w9i.heap.size := K9i.size
            have z9iz := At2.new w9i (.string ByteArray.empty) (.slice none 0 0) 24
            have hz := apart_new o9i
            have o9iz := o9i.below kb
            generalize hgz : w9i.heap.size = gz at *
            go_simp
            change K _ (w9i.alloc (.cells #[.string ByteArray.empty, .slice none 0 0] 24))
            generalize w9i.alloc (.cells #[.string ByteArray.empty, .slice none 0 0] 24) = w9iz at *
            clear hgz kb
            refine hK.out _ _ ?_ (fun hHeld => ?_)
            · exact HS2.out _ K9iz
            clear hK K
            (try simp only [Act.put]); (try simp only [List.setIfInBounds_toArray]); (try simp only [List.set_cons_succ]); (try simp only [List.set_cons_zero])
            refine wpAnyH_ready (rs := [7]) (by kernel_rfl) (by simp) ?_
            refine AllReadyH.cons rfl (fun K hK => ?_) AllReadyH.nil
            have hsb : gb ≤ w9iz.heap.size := Nat.le_of_lt (World.ownsRow.lt o9iz gb rfl).2
            refine step_append_cells2 _ rfl (.tmp 108) (.tmp 112) 22 rfl gb 45 i0 (.agg #[.string ByteArray.empty, .string ByteArray.empty]) 2 32 Tryz.underlying22 hi hz0 hz1 hz2 rfl (by decide) _ 0 [] rfl o9iz (cutA A0 c0 k) (x.length - k) (c0 - k) (cellsB (x.drop k)) rfl (by rw [cellsB_length, List.length_drop]) ((HX.out _ (ext_step K12 K9iz)).tail_src hk fun _ _ => rfl) (cellsB_one _) (by unfold maxLen; omega) (by omega) hsb ?_
            intro v5 w9iza hr hgw hob
            rw [← List.length_drop] at hr
            obtain ⟨o9iza, hq⟩ := own_join (hs := x.drop k) o9iz hsb hr hgw
            rw [List.nil_append] at o9iza
            have K9iza := K9iz.trans (hq.mono (by omega))
            have z9iza := z9iz.grown hgw hz
            have hz := apart_join hz z9iz.lt hob
            have hsb := Nat.le_trans hsb hq.size
            clear hr hgw hob hq
            refine hK.out _ _ ?_ (fun hHeld => ?_)
            · exact HS2.out _ K9iza
            clear hK K
            (try simp only [Act.put]); (try simp only [List.setIfInBounds_toArray]); (try simp only [List.set_cons_succ]); (try simp only [List.set_cons_zero])
            refine wpAnyH_ready (rs := [12]) (by kernel_rfl) (by simp) ?_
            refine AllReadyH.cons rfl (fun K hK => ?_) AllReadyH.nil
            have hdl : (x.drop k).length = x.length - k := List.length_drop
            have htl : (x.take k).length = k := by rw [List.length_take]; omega
            refine step_append_cells2 _ rfl (.tmp 113) (.tmp 117) 22 rfl gb 45 i0 (.agg #[.string ByteArray.empty, .string ByteArray.empty]) 2 32 Tryz.underlying22 hi hz0 hz1 hz2 rfl (by decide) _ (x.drop k).length (cellsB (x.drop k)) rfl o9iza A0 k c0 (cellsB (x.take k)) rfl (by rw [cellsB_length, htl]) ((HX.out _ (ext_step K12 K9iza)).head_src hk fun _ _ => rfl) (cellsB_one _) (by unfold maxLen; omega) (by omega) hsb ?_
            intro v8 w9izab hr hgw hob
            have hr := (congrArg (fun e => w9izab.ownsRow gb 45 2 v8 ((x.drop k).length + e) (cellsB (x.drop k) ++ cellsB (x.take k))) htl.symm).mp hr
            obtain ⟨o9izab, hq⟩ := own_join (hs := x.take k) o9iza hsb hr hgw
            have K9izab := K9iza.trans (hq.mono (by omega))
            have z9izab := z9iza.grown hgw hz
            have hz := apart_join hz z9iza.lt hob
            clear hr hgw hob hq
            refine hK.out _ _ ?_ (fun hHeld => ?_)
            · exact HS2.out _ K9izab
            clear hK K
            (try simp only [Act.put]); (try simp only [List.setIfInBounds_toArray]); (try simp only [List.set_cons_succ]); (try simp only [List.set_cons_zero])
            refine wpAnyH_ready (rs := [13]) (by kernel_rfl) (by simp) ?_
            refine AllReadyH.cons rfl (fun K hK => ?_) AllReadyH.nil
            go_simp
            refine (CM.out _ _ o9izab.labs).mono ?_; rintro e9 w9izabm ⟨v9, rfl, L9, b9, hab⟩
            obtain ⟨A9, c9, rfl⟩ := L9.len
            have K9izabm := ext_step K9izab b9
            have hzl := z9izab.lt
            have z9izabm := z9izab.below b9
            try go_wp2_with fail
            refine hK.out _ _ ?_ (fun hHeld => ?_)
            · exact HS2.out _ K9izabm
            clear hK K
            (try simp only [Act.put]); (try simp only [List.setIfInBounds_toArray]); (try simp only [List.set_cons_succ]); (try simp only [List.set_cons_zero])
            refine take_at (i := 14) (d := some 105) (v := ?_) rfl rfl (by kernel_rfl) (by kernel_rfl) (by kernel_rfl) (fun _ _ _ h => h) (Or.inl ⟨by rfl, ?hyh23⟩) (by assumption) ?resth23
            case hyh23 => (intro w hSw; (try dsimp only at hSw); go_simp; try with_reducible rfl)
            (try simp only [Act.put]); (try simp only [List.setIfInBounds_toArray]); (try simp only [List.set_cons_succ]); (try simp only [List.set_cons_zero])
            refine take_at (i := 15) (d := some 120) (v := ?_) rfl rfl (by kernel_rfl) (by kernel_rfl) (by kernel_rfl) (fun _ _ _ h => h) (Or.inl ⟨by rfl, ?hyh24⟩) (by assumption) ?resth24
            case hyh24 => (intro w hSw; (try dsimp only at hSw); go_simp; try with_reducible rfl)
            (try simp only [Act.put]); (try simp only [List.setIfInBounds_toArray]); (try simp only [List.set_cons_succ]); (try simp only [List.set_cons_zero])
            refine take_at (i := 16) (d := some 121) (v := ?_) rfl rfl (by kernel_rfl) (by kernel_rfl) (by kernel_rfl) (fun _ _ _ h => h) (Or.inl ⟨by rfl, ?hyh25⟩) (by assumption) ?resth25
            case hyh25 => (intro w hSw; (try dsimp only at hSw); go_simp; try with_reducible rfl)
            (try simp only [Act.put]); (try simp only [List.setIfInBounds_toArray]); (try simp only [List.set_cons_succ]); (try simp only [List.set_cons_zero])
            refine wpAnyH_ready (rs := [18]) (by kernel_rfl) (by simp) ?_
            refine AllReadyH.cons rfl (fun K hK => ?_) AllReadyH.nil
            have zE := (z9izabm.set0 (.string n)).set1 (.slice A9 x.length c9)
            have LE : Labs _ ((w9izabm.setCell ⟨gz, 0, none⟩ (.string n)).setCell ⟨gz, 1, none⟩ (.slice A9 x.length c9)).heap.size _ x := ((L9.awayNew hab (p := ⟨gz, 0, none⟩) hzl (.string n)).awayNew hab (p := ⟨gz, 1, none⟩) hzl (.slice A9 x.length c9)).more (by simp)
            have K9izabms := (K9izabm.setCell (p := ⟨gz, 0, none⟩) hzk (.string n)).setCell (p := ⟨gz, 1, none⟩) hzk (.slice A9 x.length c9)
            obtain ⟨y0, y1, y2, y3⟩ := id z9izabm
            go_simp
            clear y0 y1 y2 y3
            refine hK.out _ _ ?_ (fun hHeld => ?_)
            · exact HS2.out _ K9izabms
            clear hK K
            (try simp only [Act.put]); (try simp only [List.setIfInBounds_toArray]); (try simp only [List.set_cons_succ]); (try simp only [List.set_cons_zero])
            refine take_at (i := 19) (d := some 12) (v := ?_) rfl rfl (by kernel_rfl) (by kernel_rfl) (by kernel_rfl) (fun _ _ _ h => h) (Or.inl ⟨by rfl, ?hyh26⟩) (by assumption) ?resth26
            case hyh26 => (intro w hSw; (try dsimp only at hSw); go_simp; try with_reducible rfl)
            (try simp only [Act.put]); (try simp only [List.setIfInBounds_toArray]); (try simp only [List.set_cons_succ]); (try simp only [List.set_cons_zero])
            refine wpAnyH_done (by kernel_rfl) ?_ _
            go_wp2_with fail
            go_meet
            exact ⟨gz, A9, c9, rfl, rfl, zE, LE, K9izabms⟩
        · have kb := grew1 w9 (.cells #[.string ByteArray.empty, .slice none 0 0] 24)
          have K9z := ext_step K9 kb
          have hzk : w12.heap.size ≤ w9.heap.size := K9.size
          have z9z := At2.new w9 (.string ByteArray.empty) (.slice none 0 0) 24
          generalize hgz : w9.heap.size = gz at *
          go_simp
          change K _ (w9.alloc (.cells #[.string ByteArray.empty, .slice none 0 0] 24))
          generalize w9.alloc (.cells #[.string ByteArray.empty, .slice none 0 0] 24) = w9z at *
          clear hgz kb
          refine hK.out _ _ ?_ (fun hHeld => ?_)
          · exact HS2.out _ K9z
          clear hK K
          (try simp only [Act.put]); (try simp only [List.setIfInBounds_toArray]); (try simp only [List.set_cons_succ]); (try simp only [List.set_cons_zero])
          refine wpAnyH_ready (rs := [2]) (by kernel_rfl) (by simp) ?_
          refine AllReadyH.cons rfl (fun K hK => ?_) AllReadyH.nil
          have kb := grew1 w9z (.cells #[] 45)
          have K9zi := ext_step K9z kb
          have o9zi := OwnB.empty 45 w9z
          have hb2 : w12.heap.size ≤ w9z.heap.size := K9z.size
          have hb3 := kb.size
          have hz := Nat.ne_of_gt z9z.lt
          have z9zi := z9z.below kb
          generalize hgb : w9z.heap.size = gb at *
          go_simp
          change K _ (w9z.alloc (.cells #[] 45))
          generalize w9z.alloc (.cells #[] 45) = w9zi at *
          clear hgb kb
          have hz : (Value.slice (some ⟨gb, 0, none⟩) 0 0).ownBlock ≠ some gz := fun e => by simp [Value.ownBlock] at e; omega
          refine hK.out _ _ ?_ (fun hHeld => ?_)
          · exact HS2.out _ K9zi
          clear hK K
          (try simp only [Act.put]); (try simp only [List.setIfInBounds_toArray]); (try simp only [List.set_cons_succ]); (try simp only [List.set_cons_zero])
          refine wpAnyH_ready (rs := [7]) (by kernel_rfl) (by simp) ?_
          refine AllReadyH.cons rfl (fun K hK => ?_) AllReadyH.nil
          have hsb : gb ≤ w9zi.heap.size := Nat.le_of_lt (World.ownsRow.lt o9zi gb rfl).2
          refine step_append_cells2 _ rfl (.tmp 108) (.tmp 112) 22 rfl gb 45 i0 (.agg #[.string ByteArray.empty, .string ByteArray.empty]) 2 32 Tryz.underlying22 hi hz0 hz1 hz2 rfl (by decide) _ 0 [] rfl o9zi (cutA A0 c0 k) (x.length - k) (c0 - k) (cellsB (x.drop k)) rfl (by rw [cellsB_length, List.length_drop]) ((HX.out _ (ext_step K12 K9zi)).tail_src hk fun _ _ => rfl) (cellsB_one _) (by unfold maxLen; omega) (by omega) hsb ?_
          intro v5 w9zia hr hgw hob
          rw [← List.length_drop] at hr
          obtain ⟨o9zia, hq⟩ := own_join (hs := x.drop k) o9zi hsb hr hgw
          rw [List.nil_append] at o9zia
          have K9zia := K9zi.trans (hq.mono (by omega))
          have z9zia := z9zi.grown hgw hz
          have hz := apart_join hz z9zi.lt hob
          have hsb := Nat.le_trans hsb hq.size
          clear hr hgw hob hq
          refine hK.out _ _ ?_ (fun hHeld => ?_)
          · exact HS2.out _ K9zia
          clear hK K
          (try simp only [Act.put]); (try simp only [List.setIfInBounds_toArray]); (try simp only [List.set_cons_succ]); (try simp only [List.set_cons_zero])
          refine wpAnyH_ready (rs := [12]) (by kernel_rfl) (by simp) ?_
          refine AllReadyH.cons rfl (fun K hK => ?_) AllReadyH.nil
          have hdl : (x.drop k).length = x.length - k := List.length_drop
          have htl : (x.take k).length = k := by rw [List.length_take]; omega
          refine step_append_cells2 _ rfl (.tmp 113) (.tmp 117) 22 rfl gb 45 i0 (.agg #[.string ByteArray.empty, .string ByteArray.empty]) 2 32 Tryz.underlying22 hi hz0 hz1 hz2 rfl (by decide) _ (x.drop k).length (cellsB (x.drop k)) rfl o9zia A0 k c0 (cellsB (x.take k)) rfl (by rw [cellsB_length, htl]) ((HX.out _ (ext_step K12 K9zia)).head_src hk fun _ _ => rfl) (cellsB_one _) (by unfold maxLen; omega) (by omega) hsb ?_
          intro v8 w9ziab hr hgw hob
          have hr := (congrArg (fun e => w9ziab.ownsRow gb 45 2 v8 ((x.drop k).length + e) (cellsB (x.drop k) ++ cellsB (x.take k))) htl.symm).mp hr
          obtain ⟨o9ziab, hq⟩ := own_join (hs := x.take k) o9zia hsb hr hgw
          have K9ziab := K9zia.trans (hq.mono (by omega))
          have z9ziab := z9zia.grown hgw hz
          have hz := apart_join hz z9zia.lt hob
          clear hr hgw hob hq
          refine hK.out _ _ ?_ (fun hHeld => ?_)
          · exact HS2.out _ K9ziab
          clear hK K
          (try simp only [Act.put]); (try simp only [List.setIfInBounds_toArray]); (try simp only [List.set_cons_succ]); (try simp only [List.set_cons_zero])
          refine wpAnyH_ready (rs := [13]) (by kernel_rfl) (by simp) ?_
          refine AllReadyH.cons rfl (fun K hK => ?_) AllReadyH.nil
          go_simp
          refine (CM.out _ _ o9ziab.labs).mono ?_; rintro e9 w9ziabm ⟨v9, rfl, L9, b9, hab⟩
          obtain ⟨A9, c9, rfl⟩ := L9.len
          have K9ziabm := ext_step K9ziab b9
          have hzl := z9ziab.lt
          have z9ziabm := z9ziab.below b9
          try go_wp2_with fail
          refine hK.out _ _ ?_ (fun hHeld => ?_)
          · exact HS2.out _ K9ziabm
          clear hK K
          (try simp only [Act.put]); (try simp only [List.setIfInBounds_toArray]); (try simp only [List.set_cons_succ]); (try simp only [List.set_cons_zero])
          refine take_at (i := 14) (d := some 105) (v := ?_) rfl rfl (by kernel_rfl) (by kernel_rfl) (by kernel_rfl) (fun _ _ _ h => h) (Or.inl ⟨by rfl, ?hyh27⟩) (by assumption) ?resth27
          case hyh27 => (intro w hSw; (try dsimp only at hSw); go_simp; try with_reducible rfl)
          (try simp only [Act.put]); (try simp only [List.setIfInBounds_toArray]); (try simp only [List.set_cons_succ]); (try simp only [List.set_cons_zero])
          refine take_at (i := 15) (d := some 120) (v := ?_) rfl rfl (by kernel_rfl) (by kernel_rfl) (by kernel_rfl) (fun _ _ _ h => h) (Or.inl ⟨by rfl, ?hyh28⟩) (by assumption) ?resth28
          case hyh28 => (intro w hSw; (try dsimp only at hSw); go_simp; try with_reducible rfl)
          (try simp only [Act.put]); (try simp only [List.setIfInBounds_toArray]); (try simp only [List.set_cons_succ]); (try simp only [List.set_cons_zero])
          refine take_at (i := 16) (d := some 121) (v := ?_) rfl rfl (by kernel_rfl) (by kernel_rfl) (by kernel_rfl) (fun _ _ _ h => h) (Or.inl ⟨by rfl, ?hyh29⟩) (by assumption) ?resth29
          case hyh29 => (intro w hSw; (try dsimp only at hSw); go_simp; try with_reducible rfl)
          (try simp only [Act.put]); (try simp only [List.setIfInBounds_toArray]); (try simp only [List.set_cons_succ]); (try simp only [List.set_cons_zero])
          refine wpAnyH_ready (rs := [18]) (by kernel_rfl) (by simp) ?_
          refine AllReadyH.cons rfl (fun K hK => ?_) AllReadyH.nil
          have zE := (z9ziabm.set0 (.string n)).set1 (.slice A9 x.length c9)
          have LE : Labs _ ((w9ziabm.setCell ⟨gz, 0, none⟩ (.string n)).setCell ⟨gz, 1, none⟩ (.slice A9 x.length c9)).heap.size _ x := ((L9.awayNew hab (p := ⟨gz, 0, none⟩) hzl (.string n)).awayNew hab (p := ⟨gz, 1, none⟩) hzl (.slice A9 x.length c9)).more (by simp)
          have K9ziabms := (K9ziabm.setCell (p := ⟨gz, 0, none⟩) hzk (.string n)).setCell (p := ⟨gz, 1, none⟩) hzk (.slice A9 x.length c9)
          obtain ⟨y0, y1, y2, y3⟩ := id z9ziabm
          go_simp
          clear y0 y1 y2 y3
          refine hK.out _ _ ?_ (fun hHeld => ?_)
          · exact HS2.out _ K9ziabms
          clear hK K
          (try simp only [Act.put]); (try simp only [List.setIfInBounds_toArray]); (try simp only [List.set_cons_succ]); (try simp only [List.set_cons_zero])
          refine take_at (i := 19) (d := some 12) (v := ?_) rfl rfl (by kernel_rfl) (by kernel_rfl) (by kernel_rfl) (fun _ _ _ h => h) (Or.inl ⟨by rfl, ?hyh30⟩) (by assumption) ?resth30
          case hyh30 => (intro w hSw; (try dsimp only at hSw); go_simp; try with_reducible rfl)
          (try simp only [Act.put]); (try simp only [List.setIfInBounds_toArray]); (try simp only [List.set_cons_succ]); (try simp only [List.set_cons_zero])
          refine wpAnyH_done (by kernel_rfl) ?_ _
          go_wp2_with fail
          go_meet
          exact ⟨gz, A9, c9, rfl, rfl, zE, LE, K9ziabms⟩
      case rest =>
        obtain ⟨gz, A9, c9, rfl, rfl, z9, L9, k9⟩ := hcut
        have K13 := ext_step K12 k9
        obtain ⟨s0, s1, -, -, -, -⟩ := HS.out _ K13
        obtain ⟨z0, z1, -, -⟩ := id z9
        go_wp2_with fail
        refine (CS.out _ _ (hSZ.out _ _ L9) (hSZ.out _ _ (HX.out _ K13))).mono ?_; rintro e w14 ⟨rfl, b14⟩
        have K14 := ext_step K13 b14
        go_wp2_with fail
        go_ret
        exact ⟨rfl, HB.out _ K14⟩
end Go.Proofs.YteiilmnehdbdiaaGreatDoor
