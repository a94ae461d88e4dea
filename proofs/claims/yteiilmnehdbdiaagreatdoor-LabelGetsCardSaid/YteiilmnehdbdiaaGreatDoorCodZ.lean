/- Package code's reader, walked: Count, Err, Left, Text. -/
import Derived.Test.YteiilmnehdbdiaaGreatDoorCodY
namespace Go.Proofs.YteiilmnehdbdiaaGreatDoor
open Go.RowKit

theorem stC_le (bs : List Int) (e : Int) {most : Int} (hm : Fits most) : (stC bs e most).1 ≤ 9223372036854775807 := by
  unfold Fits at hm
  unfold stC
  split
  · exact (by decide : (0 : Int) ≤ 9223372036854775807)
  · rename_i hbig
    by_cases he : e = 0
    · subst he
      rw [stU_ok]
      rcases readU_err bs with h | ⟨h1, -, -⟩
      · have := fun k => hbig ⟨rfl, h, k⟩; omega
      · omega
    · rw [stU_no he]; exact (by decide : (0 : Int) ≤ 9223372036854775807)

theorem stM_most (bs : List Int) (e most : Int) : stM bs e (max most 0) = stC bs e most := rfl

set_option maxRecDepth 100000 in
set_option maxHeartbeats 400000 in
theorem count6_any (g L U : Nat) (bs : List Int) (e most : Int) (w : World) (hr : Rd6 w g L U bs e) (hb : ∀ c ∈ bs, 0 ≤ c ∧ c ≤ 255) (hn : bs.length ≤ 1000000) (hm : Fits most) :
    Calls Tryz.prog 52 #[ptrV g, .int .i64 most] w fun e' w' => e' = .returned (.int .i64 (stC bs e most).1) ∧ Rd6 w' g L U (stC bs e most).2.1 (stC bs e most).2.2 ∧ Aside g (g + 1) w w' := by
  have CU := Lib.hid (upTo6_any g L U bs e (max most 0) w hr hb hn)
  rw [stM_most] at CU
  have h0 := stC_val hb e most
  have h1 := stC_le bs e hm
  generalize stC bs e most = st at *
  have hm2 : 0 ≤ max most 0 ∧ max most 0 ≤ 9223372036854775807 := by unfold Fits at hm; omega
  have hwm : IntKind.u64.wrap (max most 0) = max most 0 := by rw [IntKind.wrap_u64]; omega
  clear hr hb hm
  generalize hmx : max most 0 = mx at *
  go_enter Tryz.func52, Tryz.ntmps52
  go_wp2_with fail
  refine (CU.out).mono ?_; rintro e1 w1 ⟨rfl, hS, hA⟩
  go_wp2_with fail
  go_ret
  exact ⟨rfl, hS, hA⟩

set_option maxRecDepth 100000 in
set_option maxHeartbeats 400000 in
theorem err6_any (g L U : Nat) (bs : List Int) (e : Int) (w : World) (hr : Rd6 w g L U bs e) :
    Calls Tryz.prog 30 #[ptrV g] w fun e' w' => e' = .returned (.int .i64 e) ∧ w = w' := by
  obtain ⟨v, ⟨c0, c1, f0, f1⟩, -⟩ := hr
  go_enter Tryz.func30, Tryz.ntmps30
  go_wp2_with fail
  go_ret
  exact ⟨rfl, rfl⟩

set_option maxRecDepth 100000 in
set_option maxHeartbeats 400000 in
theorem left6_any (g L U : Nat) (bs : List Int) (e : Int) (w : World) (hr : Rd6 w g L U bs e) :
    Calls Tryz.prog 29 #[ptrV g] w fun e' w' => e' = .returned (.int .i64 bs.length) ∧ w = w' := by
  obtain ⟨v, ⟨c0, c1, f0, f1⟩, hL, -⟩ := hr
  obtain ⟨A, c, rfl⟩ := hL.len
  clear hL
  go_enter Tryz.func29, Tryz.ntmps29
  go_wp2_with fail
  go_ret
  exact ⟨rfl, rfl⟩

/-- The bytes from m on, set in the place of the others, of a reader that a call before has left so. -/
theorem Rd6.tookT {w w1 : World} {g L U : Nat} {A : Option Addr} {n c m : Nat} {bs l : List Int} {V : ByteArray} {er : Int} {st : List Int × List Int × Int} (hst : st = (l, bs.drop m, er)) (hA : At2 w1 g (.slice A n c) (.int .i64 er)) (hL : Lst w1 g .u8 (.slice A n c) bs) (hv : Above L (.slice A n c)) (h1 : L ≤ g) (h2 : g < U) (h3 : U ≤ w1.heap.size) (hm : m ≤ bs.length) (hAs : Aside g (g + 1) w w1) (hV : V = bytS l) (u : Value)
    (hu : (c = m ∧ u = .slice A (n - m) (c - m)) ∨ (c ≠ m ∧ ∃ ad, A = some ad ∧ u = .slice (some (ad.add m)) (n - m) (c - m))) :
    Ending.returned (.string V) = .returned (.string (bytS st.1)) ∧ Rd6 (w1.setCell ⟨g, 0, none⟩ u) g L U st.2.1 st.2.2 ∧ Aside g (g + 1) w (w1.setCell ⟨g, 0, none⟩ u) := by
  subst hst; subst hV
  exact ⟨rfl, ⟨u, hA.set0 u, (hL.tail_ hm u hu).below ((Below.refl g w1).setCell (Nat.le_refl _) u), hv.cut u hu, h1, h2, by rw [World.size_setCell]; exact h3⟩, hAs.put (p := ⟨g, 0, none⟩) (Nat.le_refl _) (Nat.lt_succ_self _) u⟩

set_option maxRecDepth 100000 in
set_option maxHeartbeats 2000000 in
theorem text6_any (g L U : Nat) (bs : List Int) (e most : Int) (w : World) (hr : Rd6 w g L U bs e) (hb : ∀ c ∈ bs, 0 ≤ c ∧ c ≤ 255) (hn : bs.length ≤ 1000000) (hm : Fits most) :
    Calls Tryz.prog 51 #[ptrV g, .int .i64 most] w fun e' w' => e' = .returned (.string (bytS (stT bs e most).1)) ∧ Rd6 w' g L U (stT bs e most).2.1 (stT bs e most).2.2 ∧ Aside g (g + 1) w w' := by
  obtain ⟨v, hA, hL, hv, h1, h2, h3⟩ := id hr
  obtain ⟨A, c, rfl⟩ := hL.len
  obtain ⟨c0, c1, f0, f1⟩ := id hA
  have CC := Lib.hid (count6_any g L U bs e most w hr hb hn hm)
  have HL := Lib.hid hL
  have HV := Lib.hid hv
  have HT : Hid (∀ st, stC bs e most = st → stT bs e most = if st.2.2 = 0 then (if (st.2.1.length : Int) < st.1 then ([], bs, 15) else (st.2.1.take st.1.toNat, st.2.1.drop st.1.toNat, 0)) else ([], st.2.1, st.2.2)) := Lib.hid fun st h => by subst h; rfl
  have hv0 := stC_val hb e most
  have HZ : Hid ((stC bs e most).2.2 ≠ 0 → (stC bs e most).1 = 0) := Lib.hid fun h => by
    by_cases hbig : e = 0 ∧ (readU bs).2.2 = 0 ∧ max most 0 < (readU bs).1
    · unfold stC; rw [if_pos hbig]
    · unfold stC at h ⊢
      rw [if_neg hbig] at h ⊢
      unfold stU at h ⊢
      split
      · rename_i h0
        rw [if_pos h0] at h
        rcases readU_err bs with k | ⟨k, -⟩
        · exact absurd k h
        · exact k
      · rfl
  have HT2 := Lib.hid (HT.out _ rfl)
  generalize stC bs e most = st at *
  obtain ⟨x, t, e1⟩ := st
  have hv0 : 0 ≤ x := hv0
  have HZ : Hid (e1 ≠ 0 → x = 0) := HZ
  have hgl := hA.lt
  clear HT hr hA hL hb hv
  obtain ⟨n, rfl⟩ := Int.eq_ofNat_of_zero_le hv0
  by_cases hlong : (t.length : Int) < (n : Int)
  · have he : e1 = 0 := by
      apply Classical.byContradiction
      intro h
      have := HZ.out h
      omega
    subst he
    have HC : Hid (stT bs e most = ([], bs, 15)) := Lib.hid (by rw [HT2.out]; dsimp only; rw [if_pos rfl, if_pos hlong])
    go_enter Tryz.func51, Tryz.ntmps51
    go_wp2_with fail
    refine (CC.out).mono ?_; rintro e2 w1 ⟨rfl, hS, hAs⟩
    obtain ⟨v1, hA1, hL1, hv1, -, -, h31⟩ := id hS
    obtain ⟨A1, c1', rfl⟩ := hL1.len
    obtain ⟨d0, d1, g0, g1⟩ := id hA1
    have HB : Hid (Rd6 ((w1.setCell ⟨g, 0, none⟩ (.slice A bs.length c)).setCell ⟨g, 1, none⟩ (.int .i64 15)) g L U bs 15 ∧ Aside g (g + 1) w ((w1.setCell ⟨g, 0, none⟩ (.slice A bs.length c)).setCell ⟨g, 1, none⟩ (.int .i64 15))) := Lib.hid
      ⟨⟨_, (hA1.set0 _).set1 _, ((HL.out.below (hAs.below (Nat.le_refl _) (Nat.le_of_lt hgl))).below ((Below.refl g w1).setCell (Nat.le_refl _) _)).below ((Below.refl g _).setCell (Nat.le_refl _) _), HV.out, h1, h2, by rw [World.size_setCell, World.size_setCell]; exact h31⟩, (hAs.put (p := ⟨g, 0, none⟩) (Nat.le_refl _) (Nat.lt_succ_self _) _).put (p := ⟨g, 1, none⟩) (Nat.le_refl _) (Nat.lt_succ_self _) _⟩
    clear hA1 hL1
    go_wp2_with fail
    go_ret
    exact ⟨by rw [HC.out]; rfl, by rw [HC.out]; exact HB.out.1, HB.out.2⟩
  · have HC : Hid (stT bs e most = (t.take n, t.drop n, e1)) := Lib.hid (by
      rw [HT2.out]; dsimp only
      by_cases he : e1 = 0
      · rw [if_pos he, if_neg hlong, he]; rfl
      · have h0 : n = 0 := by have := HZ.out he; omega
        rw [if_neg he, h0, List.take_zero, List.drop_zero])
    have hnt : n ≤ t.length := by omega
    have n0 : (0 : Int) ≤ (n : Int) := by omega
    have n1 : (n : Int) ≤ (t.length : Int) := by omega
    clear HL HT2 HZ
    go_enter Tryz.func51, Tryz.ntmps51
    go_wp2_with fail
    refine (CC.out).mono ?_; rintro e2 w1 ⟨rfl, hS, hAs⟩
    obtain ⟨v1, hA1, hL1, hv1, -, -, h31⟩ := id hS
    obtain ⟨A1, c1', rfl⟩ := hL1.len
    obtain ⟨d0, d1, g0, g1⟩ := id hA1
    have hcap : t.length ≤ c1' := by obtain ⟨_, _, e, h, _⟩ := id hL1; injection e with _ _ e; omega
    have hcap2 : (n : Int) ≤ (c1' : Int) := by omega
    have hcv := run_text w1 hL1 hnt
    have HA1 := Lib.hid hA1
    have HL1 := Lib.hid hL1
    have HV1 := Lib.hid hv1
    clear hA1 hS hv1
    rcases A1 with _ | ad
    · have h0 : t = [] := by
        rcases Nat.eq_zero_or_pos t.length with h | h
        · exact List.eq_nil_of_length_eq_zero h
        · obtain ⟨A', c', e, _, hr⟩ := hL1
          injection e with e
          subst e
          obtain ⟨_, e, _⟩ := hr h; cases e
      subst h0
      obtain rfl : n = 0 := by simpa using hnt
      clear hL1
      go_wp2_with fail
      all_goals
        go_ret
        exact ⟨by rw [HC.out]; rfl, by rw [HC.out]; exact ⟨_, HA1.out.set0 _, ⟨none, c1', rfl, Nat.zero_le _, fun h => absurd h (by simp)⟩, Above.none_ _ _ _, h1, h2, by rw [World.size_setCell]; exact h31⟩, hAs.put (p := ⟨g, 0, none⟩) (Nat.le_refl _) (Nat.lt_succ_self _) _⟩
    · clear hL1
      go_wp2_with fail
      all_goals
        go_ret
        exact Rd6.tookT HC.out HA1.out HL1.out HV1.out h1 h2 h31 hnt hAs rfl _ (by first | exact Or.inl ⟨by omega, by simp [*]⟩ | exact Or.inr ⟨by omega, _, rfl, rfl⟩)
end Go.Proofs.YteiilmnehdbdiaaGreatDoor
