/- The document's reader, walked: Count, Text. -/
import Derived.Test.YteiilmnehdbdiaaGreatDoorCodR
import Derived.Test.YteiilmnehdbdiaaGreatDoorTextOf
import Derived.Lib.MinMax
namespace Go.Proofs.YteiilmnehdbdiaaGreatDoor
open Go.RowKit

theorem stU_no {bs : List Int} {e : Int} (h : e ≠ 0) : stU bs e = (0, bs, e) := if_neg h

theorem stU_ok (bs : List Int) : stU bs 0 = readU bs := if_pos rfl

theorem stU_val {bs : List Int} (hb : ∀ c ∈ bs, 0 ≤ c ∧ c ≤ 255) (e : Int) : 0 ≤ (stU bs e).1 ∧ (stU bs e).1 < 18446744073709551616 := by
  unfold stU
  split
  · exact readU_val hb
  · exact ⟨Int.le_refl 0, (by decide : (0 : Int) < 18446744073709551616)⟩

theorem stC_val {bs : List Int} (hb : ∀ c ∈ bs, 0 ≤ c ∧ c ≤ 255) (e most : Int) : 0 ≤ (stC bs e most).1 := by
  unfold stC
  split
  · exact Int.le_refl 0
  · exact (stU_val hb e).1

theorem SRd.back {w w1 : World} {B g : Nat} {A : Option Addr} {c : Nat} {bs t : List Int} {e : Int} (hL : Lst w B .u8 (.slice A bs.length c) bs) (hw : B ≤ w.heap.size) (hA : Aside g (g + 1) w w1) (h : SRd w1 B g t e) (e' : Int) :
    SRd ((w1.setCell ⟨g, 1, none⟩ (.int .i64 e')).setCell ⟨g, 0, none⟩ (.slice A bs.length c)) B g bs e' ∧ Aside g (g + 1) w ((w1.setCell ⟨g, 1, none⟩ (.int .i64 e')).setCell ⟨g, 0, none⟩ (.slice A bs.length c)) := by
  obtain ⟨v, h1, h2, h3⟩ := h
  refine ⟨⟨_, (h1.set1 _).set0 _, (hL.below (hA.below h3 hw)).below (((Below.refl B w1).setCell h3 _).setCell h3 _), h3⟩, (hA.put (p := ⟨g, 1, none⟩) (Nat.le_refl _) (Nat.lt_succ_self _) _).put (p := ⟨g, 0, none⟩) (Nat.le_refl _) (Nat.lt_succ_self _) _⟩

set_option maxRecDepth 100000 in
set_option maxHeartbeats 2000000 in
theorem rCountR_any (B g : Nat) (bs : List Int) (e most : Int) (w : World) (hr : SRd w B g bs e) (hb : ∀ c ∈ bs, 0 ≤ c ∧ c ≤ 255) (hn : bs.length ≤ 1000000) (hm : Fits most) :
    Calls Tryz.prog 54 #[.pointer (some ⟨g, 0, none⟩), .int .i64 most] w fun e' w' => e' = .returned (.int .i64 (stC bs e most).1) ∧ SRd w' B g (stC bs e most).2.1 (stC bs e most).2.2 ∧ Aside g (g + 1) w w' := by
  obtain ⟨v, hA, hL, hBg⟩ := id hr
  obtain ⟨A, c, rfl⟩ := hL.len
  obtain ⟨c0, c1, f0, f1⟩ := id hA
  have CU := Lib.hid (rUintR_any B g bs e w hr hb hn)
  have hv := stU_val hb e
  have hbw : B ≤ w.heap.size := Nat.le_of_lt (Nat.lt_of_le_of_lt hBg hA.lt)
  have hm2 : 0 ≤ max most 0 ∧ max most 0 ≤ 9223372036854775807 := by unfold Fits at hm; omega
  have hwm : IntKind.u64.wrap (max most 0) = max most 0 := by rw [IntKind.wrap_u64]; omega
  have HL := Lib.hid hL
  by_cases hbig : e = 0 ∧ (readU bs).2.2 = 0 ∧ max most 0 < (readU bs).1
  · have HC : Hid (stC bs e most = (0, bs, 17)) := Lib.hid (if_pos hbig)
    obtain ⟨rfl, h1, h2⟩ := hbig
    rw [stU_ok] at CU hv
    generalize readU bs = st at *
    obtain ⟨x, t, e1⟩ := st
    obtain rfl : e1 = 0 := h1
    have h2 : max most 0 < x := h2
    clear hr hA hL hb
    generalize hmx : max most 0 = mx at *
    go_enter Tryz.func54, Tryz.ntmps54
    go_wp2_with fail
    refine (CU.out).mono ?_; rintro e1 w1 ⟨rfl, hS, hAs⟩
    obtain ⟨v1, hA1, -, -⟩ := id hS
    obtain ⟨d0, d1, g0, g1⟩ := id hA1
    have HB := Lib.hid (SRd.back HL.out hbw hAs hS 17)
    go_wp2_with fail
    go_ret
    exact ⟨by rw [HC.out]; rfl, by rw [HC.out]; exact HB.out.1, HB.out.2⟩
  · have HC : Hid (stC bs e most = stU bs e) := Lib.hid (if_neg hbig)
    have hq : ((stU bs e).2.2 = 0 ∧ (stU bs e).1 ≤ max most 0) ∨ ((stU bs e).2.2 ≠ 0 ∧ (stU bs e).1 = 0) := by
      by_cases he : e = 0
      · subst he
        rw [stU_ok]
        rcases readU_err bs with h | ⟨h1, -, h2⟩
        · exact Or.inl ⟨h, by have := fun k => hbig ⟨rfl, h, k⟩; omega⟩
        · exact Or.inr ⟨by omega, h1⟩
      · rw [stU_no he]; exact Or.inr ⟨he, rfl⟩
    generalize stU bs e = st at *
    obtain ⟨x, t, e1⟩ := st
    have hv : 0 ≤ x ∧ x < 18446744073709551616 := hv
    have hq : (e1 = 0 ∧ x ≤ max most 0) ∨ (e1 ≠ 0 ∧ x = 0) := hq
    clear hbig hb
    rcases hq with ⟨rfl, h2⟩ | ⟨h1, rfl⟩
    · generalize hmx : max most 0 = mx at *
      have hx9 : x ≤ 9223372036854775807 := by omega
      clear hr hA hL
      go_enter Tryz.func54, Tryz.ntmps54
      go_wp2_with fail
      refine (CU.out).mono ?_; rintro e1 w1 ⟨rfl, hS, hAs⟩
      obtain ⟨v1, hA1, -, -⟩ := id hS
      obtain ⟨d0, d1, g0, g1⟩ := id hA1
      go_wp2_with fail
      go_ret
      exact ⟨by rw [HC.out]; rfl, by rw [HC.out]; exact hS, hAs⟩
    · have he2 : (e1 == 0) = false := by simpa using h1
      clear hr hA hL
      go_enter Tryz.func54, Tryz.ntmps54
      go_wp2_with fail
      refine (CU.out).mono ?_; rintro e2 w1 ⟨rfl, hS, hAs⟩
      obtain ⟨v1, hA1, -, -⟩ := id hS
      obtain ⟨d0, d1, g0, g1⟩ := id hA1
      go_wp2_with fail
      go_ret
      exact ⟨by rw [HC.out]; rfl, by rw [HC.out]; exact hS, hAs⟩

theorem SRd.tookT {w w1 : World} {B g : Nat} {A : Option Addr} {c : Nat} {bs l : List Int} {V : ByteArray} {m : Nat} {st : List Int × List Int × Int} (hst : st = (l, bs.drop m, 0)) (hA : At2 w1 g (.slice A bs.length c) (.int .i64 0))
    (hL : Lst w1 B .u8 (.slice A bs.length c) bs) (hBg : B ≤ g) (hm : m ≤ bs.length) (hAs : Aside g (g + 1) w w1) (hV : V = bytS l) (u : Value)
    (hu : (c = m ∧ u = .slice A (bs.length - m) (c - m)) ∨ (c ≠ m ∧ ∃ ad, A = some ad ∧ u = .slice (some (ad.add m)) (bs.length - m) (c - m))) :
    Ending.returned (.string V) = .returned (.string (bytS st.1)) ∧ SRd (w1.setCell ⟨g, 0, none⟩ u) B g st.2.1 st.2.2 ∧ Aside g (g + 1) w (w1.setCell ⟨g, 0, none⟩ u) := by
  subst hst; subst hV
  exact ⟨rfl, (SRd.cut hA hL hBg hm u hu).1, hAs.trans (SRd.cut hA hL hBg hm u hu).2⟩

set_option maxRecDepth 100000 in
set_option maxHeartbeats 2000000 in
theorem rTextR_any (B g : Nat) (bs : List Int) (e most : Int) (w : World) (hr : SRd w B g bs e) (hb : ∀ c ∈ bs, 0 ≤ c ∧ c ≤ 255) (hn : bs.length ≤ 1000000) (hm : Fits most) :
    Calls Tryz.prog 53 #[.pointer (some ⟨g, 0, none⟩), .int .i64 most] w fun e' w' => e' = .returned (.string (bytS (stT bs e most).1)) ∧ SRd w' B g (stT bs e most).2.1 (stT bs e most).2.2 ∧ Aside g (g + 1) w w' := by
  obtain ⟨v, hA, hL, hBg⟩ := id hr
  obtain ⟨A, c, rfl⟩ := hL.len
  obtain ⟨c0, c1, f0, f1⟩ := id hA
  have CC := Lib.hid (rCountR_any B g bs e most w hr hb hn hm)
  have hbw : B ≤ w.heap.size := Nat.le_of_lt (Nat.lt_of_le_of_lt hBg hA.lt)
  have HL := Lib.hid hL
  have HT : Hid (∀ st, stC bs e most = st → stT bs e most = if st.2.2 = 0 then (if (st.2.1.length : Int) < st.1 then ([], bs, 15) else (st.2.1.take st.1.toNat, st.2.1.drop st.1.toNat, 0)) else ([], st.2.1, st.2.2)) := Lib.hid fun st h => by subst h; rfl
  have hv := stC_val hb e most
  have HT2 := Lib.hid (HT.out _ rfl)
  generalize stC bs e most = st at *
  obtain ⟨x, t, e1⟩ := st
  have hv : 0 ≤ x := hv
  clear HT hr hA hL hb
  by_cases h1 : e1 = 0
  · subst h1
    obtain ⟨n, rfl⟩ := Int.eq_ofNat_of_zero_le hv
    by_cases h2 : (t.length : Int) < (n : Int)
    · have HC : Hid (stT bs e most = ([], bs, 15)) := Lib.hid (by rw [HT2.out]; dsimp only; rw [if_pos rfl, if_pos h2])
      go_enter Tryz.func53, Tryz.ntmps53
      go_wp2_with fail
      refine (CC.out).mono ?_; rintro e2 w1 ⟨rfl, hS, hAs⟩
      obtain ⟨v1, hA1, hL1, -⟩ := id hS
      obtain ⟨A1, c1', rfl⟩ := hL1.len
      obtain ⟨d0, d1, g0, g1⟩ := id hA1
      have HB := Lib.hid (SRd.back HL.out hbw hAs hS 15)
      have k1 : ((w1.setCell ⟨g, 1, none⟩ (.int .i64 15)).setCell ⟨g, 0, none⟩ (.slice A bs.length c)).cell? ⟨g, 1, none⟩ = some (.int .i64 15) := ((hA1.set1 _).set0 _).c1
      clear hA1 hL1
      go_wp2_with fail
      go_ret
      exact ⟨by rw [HC.out]; rfl, by rw [HC.out]; exact HB.out.1, HB.out.2⟩
    · have HC : Hid (stT bs e most = (t.take n, t.drop n, 0)) := Lib.hid (by rw [HT2.out]; dsimp only; rw [if_pos rfl, if_neg h2]; rfl)
      have hnt : n ≤ t.length := by omega
      have n0 : (0 : Int) ≤ (n : Int) := by omega
      have n1 : (n : Int) ≤ (t.length : Int) := by omega
      clear HL
      go_enter Tryz.func53, Tryz.ntmps53
      go_wp2_with fail
      refine (CC.out).mono ?_; rintro e2 w1 ⟨rfl, hS, hAs⟩
      obtain ⟨v1, hA1, hL1, -⟩ := id hS
      obtain ⟨A1, c1', rfl⟩ := hL1.len
      obtain ⟨d0, d1, g0, g1⟩ := id hA1
      have hcap : t.length ≤ c1' := by obtain ⟨_, _, e, h, _⟩ := id hL1; injection e with _ _ e; omega
      have hcap2 : (n : Int) ≤ (c1' : Int) := by omega
      have hcv := run_text w1 hL1 hnt
      have HA1 := Lib.hid hA1
      have HL1 := Lib.hid hL1
      clear hA1 hS
      rcases A1 with _ | ad
      · have h0 : t = [] := by
          rcases Nat.eq_zero_or_pos t.length with h | h
          · exact List.eq_nil_of_length_eq_zero h
          · obtain ⟨A', c', e, _, hr⟩ := hL1
            injection e with e
            subst e
            obtain ⟨_, e, _⟩ := hr h; cases e
        subst h0
        obtain rfl : n = 0 := by simpa using hnt
        clear hL1
        go_wp2_with fail
        all_goals
          go_ret
          exact ⟨by rw [HC.out]; rfl, by rw [HC.out]; exact ⟨_, HA1.out.set0 _, ⟨none, c1', rfl, Nat.zero_le _, fun h => absurd h (by simp)⟩, hBg⟩, hAs.put (p := ⟨g, 0, none⟩) (Nat.le_refl _) (Nat.lt_succ_self _) _⟩
      · clear hL1
        go_wp2_with fail
        all_goals
          go_ret
          exact SRd.tookT HC.out HA1.out HL1.out hBg hnt hAs rfl _ (by first | exact Or.inl ⟨by omega, by simp [*]⟩ | exact Or.inr ⟨by omega, _, rfl, rfl⟩)
  · have HC : Hid (stT bs e most = ([], t, e1)) := Lib.hid (by rw [HT2.out]; dsimp only; rw [if_neg h1])
    have he2 : (e1 == 0) = false := by simpa using h1
    have he3 : (e1 != 0) = true := by simpa using h1
    go_enter Tryz.func53, Tryz.ntmps53
    go_wp2_with fail
    refine (CC.out).mono ?_; rintro e2 w1 ⟨rfl, hS, hAs⟩
    obtain ⟨v1, hA1, -, -⟩ := id hS
    obtain ⟨d0, d1, g0, g1⟩ := id hA1
    clear hA1
    go_wp2_with fail
    go_ret
    exact ⟨by rw [HC.out]; rfl, by rw [HC.out]; exact hS, hAs⟩
end Go.Proofs.YteiilmnehdbdiaaGreatDoor
