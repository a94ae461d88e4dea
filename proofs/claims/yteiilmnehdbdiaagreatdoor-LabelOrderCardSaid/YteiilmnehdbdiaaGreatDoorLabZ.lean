/- Package label: Make, walked; what law 8 asks of package label: that the landed code keeps it. -/
import Derived.Test.YteiilmnehdbdiaaGreatDoorLbN
import Derived.Test.YteiilmnehdbdiaaGreatDoorLabI
import Derived.Test.YteiilmnehdbdiaaGreatDoorLabC
namespace Go.Proofs.YteiilmnehdbdiaaGreatDoor

section
open Go.RowKit

set_option maxRecDepth 100000 in
theorem sorted8_any (Bn : Nat) (v : Value) (x : List Lab) (w : World) (hlen : x.length ≤ 12) (hBn : Bn < w.heap.size) (hc : w.cell? ⟨Bn, 0, none⟩ = some v) (hL : Labs w w.heap.size v x) :
    Calls Tryz.prog 35 #[.func (.func 62) #[] #[.pointer (some ⟨Bn, 0, none⟩)], .func (.func 37) #[] #[]] w fun e w' =>
      ∃ u hs, e = .returned u ∧ AscL hs ∧ hs.Perm x ∧ Labs w' w'.heap.size u hs ∧ Above w.heap.size u ∧ Below w.heap.size w w' := by
  have CA := Lib.hid (collect8_any Bn v x w (by omega) hBn hc hL)
  clear hc hL
  go_enter Tryz.func35, Tryz.ntmps35
  go_wp2_with fail
  refine (CA.out).mono ?_; rintro e w1 ⟨u, rfl, hO, hB⟩
  have CS := Lib.hid (sort8_any u x w.heap.size w1 hO hlen hB.size)
  have hA : Hid (Above w.heap.size u) := Lib.hid (by
    intro A n c e ad ea
    subst e; subst ea
    rcases hO.2 with ⟨h0, -⟩ | ⟨g, cap, cur, e, hg, _⟩
    · injection h0 with h0; cases h0
    · injection e with e1; injection e1 with e1; subst e1; exact hg)
  clear hO
  go_wp2_with fail
  refine (CS.out).mono ?_; rintro e w2 ⟨rfl, hs, h1, h2, h3, h4⟩
  have hB2 := Lib.hid (hB.trans h4)
  have h1 := Lib.hid h1
  have h2 := Lib.hid h2
  have h3 := Lib.hid h3
  clear h4 hB
  go_wp2_with fail
  go_ret
  exact ⟨u, hs, rfl, h1.out, h2.out, h3.out, hA.out, hB2.out⟩

theorem asc_sorted {hs : List Lab} (h : AscL hs) (hn : (hs.map (·.1)).Nodup) : Sorted hs := by
  refine adj_sorted.1 fun i hi _ => ?_
  have h1 := h i (i + 1) (by omega) hi
  have hne : (hs[i]'(by omega)).1 ≠ hs[i + 1].1 := fun e => by
    have hi1 : i < (hs.map (·.1)).length := by rw [List.length_map]; omega
    have hi2 : i + 1 < (hs.map (·.1)).length := by rw [List.length_map]; exact hi
    have := (List.getElem_inj (h₀ := hi1) (h₁ := hi2) hn).1 (by rw [List.getElem_map, List.getElem_map]; exact e)
    omega
  have h2 : ordS hs[i + 1].1 (hs[i]'(by omega)).1 ≠ 0 := fun e => hne (ordS_zero.1 e).symm
  unfold ordL at h1
  rw [if_pos h2] at h1
  rcases ordS_bd hs[i + 1].1 (hs[i]'(by omega)).1 with k | k | k
  · omega
  · exact absurd k h2
  · exact ordS_lt.1 (by rw [ordS_neg, k])
theorem make_sorted {x hs : List Lab} (ha : AscL hs) (hp : hs.Perm x) : makeL [] x = if Sorted hs then some hs else none := by
  by_cases h : Sorted hs
  · rw [if_pos h]; exact makeL_one h hp.symm
  · rw [if_neg h]
    cases e : makeL [] x with
    | none => rfl
    | some r =>
      obtain ⟨h1, h2⟩ := makeL_some List.Pairwise.nil e
      rw [List.nil_append] at h2
      exact absurd (asc_sorted ha (((h2.trans hp.symm).map (·.1)).nodup_iff.1 (sorted_nodup h1))) h

set_option maxRecDepth 100000 in
set_option maxHeartbeats 4000000 in
theorem make8_any (n : ByteArray) (u : Value) (x : List Lab) (w : World) (hx : SerW w n u x) : Calls Tryz.prog 10 #[.string n, u] w (SerE w (makeE n x)) := by
  obtain ⟨A0, c0, rfl⟩ := hx.labs.len
  have aR := At2.new w (.string (ByteArray.mk #[])) (.slice none 0 0) 24
  have hB0 := grew1 w (.cells #[.string (ByteArray.mk #[]), .slice none 0 0] 24)
  have hWs := World.size_alloc w (.cells #[.string (ByteArray.mk #[]), .slice none 0 0] 24)
  have CN := Lib.hid fun W => name8_any n W hx.nm
  have LX := Lib.hid (hx.labs.below hB0)
  have hxl := hx.len
  have HZ := Lib.hid hx.sz
  have HF := Lib.hid ((aR.set0 (.string ByteArray.empty)).set1 (.slice none 0 0))
  have HB1 := Lib.hid ((hB0.setCell (p := ⟨w.heap.size, 0, none⟩) (Nat.le_refl _) (.string ByteArray.empty)).setCell (p := ⟨w.heap.size, 1, none⟩) (Nat.le_refl _) (.slice none 0 0))
  obtain ⟨r0, r1, r2, r3⟩ := id aR
  clear hx
  by_cases hnm : IsName n
  case neg =>
    have hE : Hid (makeE n x = (ByteArray.empty, [], 10)) := Lib.hid (by unfold makeE; rw [if_pos hnm])
    rw [decide_eq_false hnm] at CN
    clear hnm
    go_enter Tryz.func10, Tryz.ntmps10
    go_wp2_with fail
    refine (CN.out _).mono ?_; rintro e w1 ⟨rfl, rfl⟩
    go_wp2_with fail
    have z0 := HF.out.c0
    have z1 := HF.out.c1
    exact bodyPost_ret (v := .tuple #[.agg #[.string ByteArray.empty, .slice none 0 0], .int .i64 10]) (by simp [results, Tryz.results10, go_sem, r0, r1]; rfl) rfl ⟨_, by rw [hE.out], by rw [hE.out]; exact Labs.nil _ _, by first | exact HB1.out | exact hB0, Above.none_ _ _ _⟩
  rw [decide_eq_true hnm] at CN
  by_cases h8 : 8 < x.length
  · have hE : Hid (makeE n x = (ByteArray.empty, [], 17)) := Lib.hid (by unfold makeE; rw [if_neg (not_not_intro hnm), if_pos h8])
    have i1 : (8 : Int) < (x.length : Int) := by omega
    clear hnm
    go_enter Tryz.func10, Tryz.ntmps10
    go_wp2_with fail
    refine (CN.out _).mono ?_; rintro e w1 ⟨rfl, rfl⟩
    go_wp2_with fail
    have z0 := HF.out.c0
    have z1 := HF.out.c1
    exact bodyPost_ret (v := .tuple #[.agg #[.string ByteArray.empty, .slice none 0 0], .int .i64 17]) (by simp [results, Tryz.results10, go_sem, r0, r1]; rfl) rfl ⟨_, by rw [hE.out], by rw [hE.out]; exact Labs.nil _ _, by first | exact HB1.out | exact hB0, Above.none_ _ _ _⟩
  have i1 : ¬ (8 : Int) < (x.length : Int) := by omega
  have CA := Lib.hid (allRight8_any (.slice A0 x.length c0) x _ (LX.out.more hB0.size) hxl HZ.out)
  clear HF HB1
  by_cases hall : ∀ l ∈ x, okL l
  case neg =>
    have hE : Hid (makeE n x = (ByteArray.empty, [], 10)) := Lib.hid (by unfold makeE; rw [if_neg (not_not_intro hnm), if_neg h8, if_pos (show ¬ ∀ l ∈ x, IsName l.1 ∧ IsVal l.2 from hall)])
    rw [decide_eq_false hall] at CA
    clear hnm hall
    go_enter Tryz.func10, Tryz.ntmps10
    go_wp2_with fail
    refine (CN.out _).mono ?_; rintro e w1 ⟨rfl, rfl⟩
    go_wp2_with fail
    refine (CA.out).mono ?_; rintro e w1 ⟨rfl, hq⟩
    have aR1 := aR.below hq
    have hB1 := hB0.trans (hq.mono hB0.size)
    have HF := Lib.hid ((aR1.set0 (.string ByteArray.empty)).set1 (.slice none 0 0))
    have HB1 := Lib.hid ((hB1.setCell (p := ⟨w.heap.size, 0, none⟩) (Nat.le_refl _) (.string ByteArray.empty)).setCell (p := ⟨w.heap.size, 1, none⟩) (Nat.le_refl _) (.slice none 0 0))
    clear r0 r1 r2 r3
    obtain ⟨r0, r1, r2, r3⟩ := id aR1
    go_wp2_with fail
    have z0 := HF.out.c0
    have z1 := HF.out.c1
    exact bodyPost_ret (v := .tuple #[.agg #[.string ByteArray.empty, .slice none 0 0], .int .i64 10]) (by simp [results, Tryz.results10, go_sem, r0, r1]; rfl) rfl ⟨_, by rw [hE.out], by rw [hE.out]; exact Labs.nil _ _, by first | exact HB1.out | exact hB0, Above.none_ _ _ _⟩
  have hE : Hid (makeE n x = madeO n (makeL [] x)) := Lib.hid (by unfold makeE; rw [if_neg (not_not_intro hnm), if_neg h8, if_neg (not_not_intro (show ∀ l ∈ x, IsName l.1 ∧ IsVal l.2 from hall))])
  have hok := Lib.hid hall
  rw [decide_eq_true hall] at CA
  clear hnm hall
  have CV := Lib.hid fun W => values8_any A0 x.length c0 W
  go_enter Tryz.func10, Tryz.ntmps10
  go_wp2_with fail
  refine (CN.out _).mono ?_; rintro e w1 ⟨rfl, rfl⟩
  go_wp2_with fail
  refine (CA.out).mono ?_; rintro e w1 ⟨rfl, hq⟩
  have aR1 := aR.below hq
  have hB1 := hB0.trans (hq.mono hB0.size)
  have LX1 := Lib.hid (LX.out.below (hq.mono hB0.size))
  have hs1 := hq.size
  clear r0 r1 r2 r3 aR hB0 hq LX CA
  go_wp2_with fail
  refine (CV.out _).mono ?_; rintro e w2 ⟨rfl, rfl⟩
  have hG := grew1 w1 (.cells #[.slice A0 x.length c0] 22)
  have aR2 := aR1.below hG
  have hB2 := hB1.trans (hG.mono (by omega))
  have CS := Lib.hid (sorted8_any w1.heap.size (.slice A0 x.length c0) x (w1.alloc (.cells #[.slice A0 x.length c0] 22)) (by omega) (by rw [World.size_alloc]; exact Nat.lt_succ_self _) (by rw [World.cell?_alloc_new]; rfl) ((LX1.out.below (hG.mono (by omega))).more (by have := hG.size; omega)))
  have hs2 : w.heap.size + 1 ≤ (w1.alloc (.cells #[.slice A0 x.length c0] 22)).heap.size := by rw [World.size_alloc]; omega
  clear aR1 hB1 LX1 hs1 hG CV
  go_wp2_with fail
  refine (CS.out).mono ?_; rintro e w3 ⟨u2, hs, rfl, ha, hp, hL3, hA3, hq3⟩
  obtain ⟨A2, c2, rfl⟩ := hL3.len
  have HM := Lib.hid (make_sorted ha hp)
  have hl8 : hs.length ≤ 8 := by rw [hp.length_eq]; omega
  have hA3 := hA3.less hs2
  clear ha hp CS
  have aR3 := aR2.below hq3
  have hB3 := hB2.trans (hq3.mono (by omega))
  have hs3 := Nat.le_trans hs2 hq3.size
  have hG := grew1 w3 (.cells #[.string n, .slice A2 hs.length c2] 24)
  have aO := At2.new w3 (.string n) (.slice A2 hs.length c2) 24
  have aR4 := aR3.below hG
  have hB4 := hB3.trans (hG.mono (by omega))
  have hL4 := (hL3.below hG).more hG.size
  have hs4 := Nat.le_trans hs3 hG.size
  have CI := Lib.hid (incr8_any (.slice A2 hs.length c2) hs _ hL4 (by omega))
  obtain ⟨o0, o1, o2, o3⟩ := id aO
  clear aR2 aR3 hB2 hB3 hs2 hs3 hL3 hq3 hG
  by_cases hS : Sorted hs
  · have hE2 : Hid (makeE n x = (n, hs, 0)) := Lib.hid (by rw [hE.out, HM.out, if_pos hS]; rfl)
    rw [decide_eq_true hS] at CI
    clear hS HM
    go_wp2_with fail
    refine (CI.out).mono ?_; rintro e w5 ⟨rfl, hq5⟩
    have aR5 := aR4.below hq5
    have aO5 := aO.below hq5
    have hB5 := hB4.trans (hq5.mono (by omega))
    have hL5 := (hL4.below hq5).more hq5.size
    have HF := Lib.hid ((aR5.set0 (.string n)).set1 (.slice A2 hs.length c2))
    have HL := Lib.hid ((hL5.awayNew hA3 (p := ⟨w.heap.size, 0, none⟩) (by dsimp only; omega) (.string n)).awayNew hA3 (p := ⟨w.heap.size, 1, none⟩) (by dsimp only; omega) (.slice A2 hs.length c2))
    have HB := Lib.hid ((hB5.setCell (p := ⟨w.heap.size, 0, none⟩) (Nat.le_refl _) (.string n)).setCell (p := ⟨w.heap.size, 1, none⟩) (Nat.le_refl _) (.slice A2 hs.length c2))
    have HA := Lib.hid (hA3.less (show w.heap.size ≤ w.heap.size + 1 by omega))
    clear o0 o1 o2 o3
    obtain ⟨o0, o1, o2, o3⟩ := id aO5
    obtain ⟨r0, r1, r2, r3⟩ := id aR5
    go_wp2_with fail
    have z0 := HF.out.c0
    have z1 := HF.out.c1
    exact bodyPost_ret (v := .tuple #[.agg #[.string n, .slice A2 hs.length c2], .int .i64 0]) (by simp [results, Tryz.results10, go_sem, z0, z1]) rfl ⟨_, by rw [hE2.out], by rw [hE2.out]; exact HL.out.more (by simp), HB.out, HA.out⟩
  · have hE2 : Hid (makeE n x = (ByteArray.empty, [], 18)) := Lib.hid (by rw [hE.out, HM.out, if_neg hS]; rfl)
    rw [decide_eq_false hS] at CI
    clear hS HM
    go_wp2_with fail
    refine (CI.out).mono ?_; rintro e w5 ⟨rfl, hq5⟩
    have aR5 := aR4.below hq5
    have hB5 := hB4.trans (hq5.mono (by omega))
    have HF := Lib.hid ((aR5.set0 (.string ByteArray.empty)).set1 (.slice none 0 0))
    have HB1 := Lib.hid ((hB5.setCell (p := ⟨w.heap.size, 0, none⟩) (Nat.le_refl _) (.string ByteArray.empty)).setCell (p := ⟨w.heap.size, 1, none⟩) (Nat.le_refl _) (.slice none 0 0))
    clear o0 o1 o2 o3
    obtain ⟨r0, r1, r2, r3⟩ := id aR5
    go_wp2_with fail
    have z0 := HF.out.c0
    have z1 := HF.out.c1
    exact bodyPost_ret (v := .tuple #[.agg #[.string ByteArray.empty, .slice none 0 0], .int .i64 18]) (by simp [results, Tryz.results10, go_sem, r0, r1]; rfl) rfl ⟨_, by rw [hE2.out], by rw [hE2.out]; exact Labs.nil _ _, HB1.out, Above.none_ _ _ _⟩
end

section
open Go.RowKit

theorem OwnB.above {t : TypeId} {w : World} {B : Nat} {v : Value} {gs : List Lab} (h : OwnB t w B v gs) : Above B v := by
  intro A n c e ad ea
  subst e; subst ea
  rcases h.2 with ⟨h0, -⟩ | ⟨g, cap, cur, e, hg, _⟩
  · injection h0 with h0; cases h0
  · injection e with e1; injection e1 with e1; subst e1; exact hg
theorem labelC : LabC Rd6 where
  make n u x w hx := make8_any n u x w hx
  right n u x w hx := right8_any n u x w hx.labs hx.nm hx.len hx.sz
  text n u x w hx := text8_any n u x w hx.labs hx.nm hx.len hx.sz
  bytes n u x w hx := (bytes8_any n u x w hx.labs hx.nm hx.len hx.sz).mono fun _ _ ⟨v, h1, h2, h3⟩ => ⟨v, h1, h2.lst, h3⟩
  get n u x s w hx := get8_any n u x s w hx.labs hx.len
  parse s w hs := parse8_any s w hs
  read w g L U bs e hr hb hn := (read8_any g L U bs e w hr hb hn).mono fun _ _ ⟨⟨v, h1, h2⟩, h3, h4⟩ => ⟨⟨v, h1, h2.labs, h2.above⟩, h3, hr.wide h4⟩
  compare n u x m v y w hx hy := compare8_any n m u v x y w hx.labs hy.labs hx.len hy.len
end
end Go.Proofs.YteiilmnehdbdiaaGreatDoor
