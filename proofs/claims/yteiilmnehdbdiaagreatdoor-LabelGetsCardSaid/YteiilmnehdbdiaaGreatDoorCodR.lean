/- The document's reader, walked: New, Uint, Int, Count, Text, End. -/
import Derived.Test.YteiilmnehdbdiaaGreatDoorCodU
import Derived.Laws.BytesString
import Derived.Deep.CutBlock
import Derived.Deep.DeepCutAuto
import Derived.Deep.RegionHeld3
namespace Go.Proofs.YteiilmnehdbdiaaGreatDoor
open Go.RowKit

/-- Block g holds a reader of these bytes (which lie below block B) in this state. -/
def SRd (w : World) (B g : Nat) (bs : List Int) (e : Int) : Prop := ∃ v, At2 w g v (.int .i64 e) ∧ Lst w B .u8 v bs ∧ B ≤ g
theorem SRd.below {w w' : World} {B g : Nat} {bs : List Int} {e : Int} (h : SRd w B g bs e) (hb : Below w.heap.size w w') : SRd w' B g bs e := by
  obtain ⟨v, h1, h2, h3⟩ := h
  exact ⟨v, h1.below hb, h2.below (hb.mono (Nat.le_of_lt (Nat.lt_of_le_of_lt h3 h1.lt))), h3⟩
theorem SRd.aside {w w' : World} {B g L U : Nat} {bs : List Int} {e : Int} (h : SRd w B g bs e) (hb : Aside L U w w') (h1 : B ≤ L) (h2 : U ≤ g) : SRd w' B g bs e := by
  obtain ⟨v, k1, k2, k3⟩ := h
  exact ⟨v, hb.at2 k1 (Or.inr h2), hb.lst k2 h1 (Nat.le_of_lt (Nat.lt_of_le_of_lt k3 k1.lt)), k3⟩
theorem SRd.drew {w : World} {B g : Nat} {bs : List Int} {e : Int} (h : SRd w B g bs e) : SRd w.drew B g bs e := by
  obtain ⟨v, h1, h2, h3⟩ := h
  exact ⟨v, h1.drew, h2, h3⟩

theorem SRd.cut {w : World} {B g : Nat} {A : Option Addr} {c : Nat} {bs : List Int} (hA : At2 w g (.slice A bs.length c) (.int .i64 0)) (hL : Lst w B .u8 (.slice A bs.length c) bs) (hBg : B ≤ g) {m : Nat} (hm : m ≤ bs.length) (u : Value)
    (hu : (c = m ∧ u = .slice A (bs.length - m) (c - m)) ∨ (c ≠ m ∧ ∃ ad, A = some ad ∧ u = .slice (some (ad.add m)) (bs.length - m) (c - m))) :
    SRd (w.setCell ⟨g, 0, none⟩ u) B g (bs.drop m) 0 ∧ Aside g (g + 1) w (w.setCell ⟨g, 0, none⟩ u) :=
  ⟨⟨u, hA.set0 u, (hL.tail_ hm u hu).below ((Below.refl B w).setCell hBg u), hBg⟩, (Aside.refl g (g + 1) w).put (p := ⟨g, 0, none⟩) (Nat.le_refl _) (Nat.lt_succ_self _) u⟩
theorem SRd.err {w : World} {B g : Nat} {bs : List Int} {e : Int} (h : SRd w B g bs e) (e' : Int) : SRd (w.setCell ⟨g, 1, none⟩ (.int .i64 e')) B g bs e' ∧ Aside g (g + 1) w (w.setCell ⟨g, 1, none⟩ (.int .i64 e')) := by
  obtain ⟨v, h1, h2, h3⟩ := h
  exact ⟨⟨v, h1.set1 _, h2.below ((Below.refl B w).setCell h3 _), h3⟩, (Aside.refl g (g + 1) w).put (p := ⟨g, 1, none⟩) (Nat.le_refl _) (Nat.lt_succ_self _) _⟩

theorem SRd.took {w : World} {B g : Nat} {A : Option Addr} {c : Nat} {bs : List Int} {x V : Int} {m : Nat} {st : Int × List Int × Int} (hst : st = (x, bs.drop m, 0)) (hA : At2 w g (.slice A bs.length c) (.int .i64 0))
    (hL : Lst w B .u8 (.slice A bs.length c) bs) (hBg : B ≤ g) (hm : m ≤ bs.length) (hV : V = x) (u : Value)
    (hu : (c = m ∧ u = .slice A (bs.length - m) (c - m)) ∨ (c ≠ m ∧ ∃ ad, A = some ad ∧ u = .slice (some (ad.add m)) (bs.length - m) (c - m))) :
    Ending.returned (.int .u64 V) = .returned (.int .u64 st.1) ∧ SRd (w.setCell ⟨g, 0, none⟩ u) B g st.2.1 st.2.2 ∧ Aside g (g + 1) w (w.setCell ⟨g, 0, none⟩ u) := by
  subst hst; subst hV
  exact ⟨rfl, SRd.cut hA hL hBg hm u hu⟩

set_option maxRecDepth 100000 in
set_option maxHeartbeats 400000 in
theorem rNew6_any (v : Value) (bs : List Int) (w : World) (B : Nat) (hB : B ≤ w.heap.size) (hl : Lst w B .u8 v bs) : Calls Tryz.prog 26 #[v] w fun e w' =>
    e = .returned (.pointer (some ⟨w.heap.size, 0, none⟩)) ∧ SRd w' B w.heap.size bs 0 ∧ w'.heap.size = w.heap.size + 1 ∧ Below w.heap.size w w' := by
  obtain ⟨A, c, rfl⟩ := hl.len
  have h2 := At2.new w (.slice A bs.length c) (.int .i64 0) 64
  have hb := below_new w (.cells #[.slice A bs.length c, .int .i64 0] 64)
  have HL := Lib.hid hl
  go_enter Tryz.func26, Tryz.ntmps26
  go_wp2_with fail
  go_ret
  exact ⟨rfl, ⟨_, h2, HL.out.below (hb.mono hB), hB⟩, by simp, hb⟩

set_option maxRecDepth 100000 in
set_option maxHeartbeats 4000000 in
theorem rUintR_any (B g : Nat) (bs : List Int) (e : Int) (w : World) (hr : SRd w B g bs e) (hb : ∀ c ∈ bs, 0 ≤ c ∧ c ≤ 255) (hn : bs.length ≤ 1000000) :
    Calls Tryz.prog 72 #[.pointer (some ⟨g, 0, none⟩)] w fun e' w' => e' = .returned (.int .u64 (stU bs e).1) ∧ SRd w' B g (stU bs e).2.1 (stU bs e).2.2 ∧ Aside g (g + 1) w w' := by
  obtain ⟨v, hA, hL, hBg⟩ := id hr
  obtain ⟨A, c, rfl⟩ := hL.len
  obtain ⟨c0, c1, f0, f1⟩ := id hA
  by_cases he : e = 0
  · subst he
    have HE : Hid (stU bs 0 = readU bs) := Lib.hid (if_pos rfl)
    have HR0 : Hid (readAt (bs.drop 0) 0 0 bs = stU bs 0) := Lib.hid (by rw [HE.out]; rfl)
    have HL := Lib.hid hL
    have HA := Lib.hid hA
    have hrd := Lib.hid hr
    have HBY := Lib.hid hb
    clear hL hb hr hA HE
    generalize stU bs 0 = st at *
    go_enter Tryz.func72, Tryz.ntmps72
    go_wp2_with fail
    go_loop [3, 4] (fun v i => ∃ (k : Nat) (x : Int), k ≤ 9 ∧ k ≤ bs.length ∧ v = .int .u64 x ∧ i = .int .i64 k ∧ 0 ≤ x ∧ Hid (x < 2 ^ (7 * k)) ∧ Hid (readAt (bs.drop k) k x bs = st)) (fun _ i => 10 - (intOf i).toNat)
    case atStart => exact ⟨0, 0, by omega, by omega, rfl, rfl, Int.le_refl _, Lib.hid (by decide), HR0⟩
    case round =>
      clear HR0
      obtain ⟨k, x, hk9, hkl, rfl, rfl, hx0, hx, hR⟩ := hrel
      have k9 : (k : Int) < 10 := by omega
      by_cases hlt : k < bs.length
      · obtain ⟨A', c', e', _, hr⟩ := HL.out
        obtain ⟨ad, rfl, hab, hcell⟩ := hr (by omega)
        obtain rfl : A = some ad := by injection e'
        clear e' hr
        have hcc := HBY.out _ (List.getElem_mem hlt)
        have cc : w.cell? (ad.add k) = some (.int .u8 bs[k]) := hcell k hlt
        have HS : Hid (bs.drop k = bs[k] :: bs.drop (k + 1)) := Lib.hid (List.drop_eq_getElem_cons hlt)
        rw [HS.out] at hR
        have k0 : (0 : Int) ≤ (k : Int) := by omega
        have k1 : (k : Int) < (bs.length : Int) := by omega
        clear hcell
        generalize bs[k] = b at *
        obtain ⟨b0, b1⟩ := hcc
        go_upto_region 11 with fail
        by_cases hbad : (k = 9 ∧ 1 < b) ∨ (0 < k ∧ b = 0)
        · have HB : Hid (st = (0, bs, 10)) := Lib.hid (by rw [← hR.out]; unfold readAt; rw [if_pos hbad])
          have HF := Lib.hid (hrd.out.err 10)
          clear hR hx HS HBY
          rcases (show (k = 9 ∧ 1 < b) ∨ (0 < k ∧ k ≠ 9 ∧ b = 0) ∨ (k = 9 ∧ b = 0) by omega) with ⟨h1, h2⟩ | ⟨h1, h2, h3⟩ | ⟨h1, h2⟩
          · have e1 : ((k : Int) == 9) = true := by simp; omega
            clear hbad
            go_wp2_with fail
            go_ret
            exact ⟨by rw [HB.out]; rfl, by rw [HB.out]; exact HF.out.1, HF.out.2⟩
          · have e1 : ¬ (k : Int) = 9 := by omega
            have e2 : (0 : Int) < (k : Int) := by omega
            have e3 : (b == 0) = true := by simpa using h3
            clear hbad
            go_wp2_with fail
            go_ret
            exact ⟨by rw [HB.out]; rfl, by rw [HB.out]; exact HF.out.1, HF.out.2⟩
          · have e1 : ((k : Int) == 9) = true := by simp; omega
            have e2 : ¬ (1 < b) := by omega
            have e3 : (b == 0) = true := by simpa using h2
            have e4 : (0 : Int) < (k : Int) := by omega
            clear hbad
            go_wp2_with fail
            go_ret
            exact ⟨by rw [HB.out]; rfl, by rw [HB.out]; exact HF.out.1, HF.out.2⟩
        · obtain ⟨a0, a1, a2⟩ := acc_bd hk9 hx0 hx.out b0 (fun h => hbad (Or.inl h))
          have HW : Hid (IntKind.u64.wrap (x + IntKind.u64.wrap (b % 128 * 2 ^ (7 * k))) = x + b % 128 * 2 ^ (7 * k)) := Lib.hid (by
            have w1 : IntKind.u64.wrap (b % 128 * 2 ^ (7 * k)) = b % 128 * 2 ^ (7 * k) := by rw [IntKind.wrap_u64]; omega
            rw [w1, IntKind.wrap_u64]; omega)
          have HA2 := Lib.hid a2
          have a3 : Hid (0 ≤ x + b % 128 * 2 ^ (7 * k)) := Lib.hid (by omega)
          rcases (show (k = 0) ∨ (0 < k ∧ k ≠ 9 ∧ b ≠ 0) ∨ (k = 9 ∧ ¬ 1 < b ∧ b ≠ 0) by omega) with h1 | ⟨h1, h2, h3⟩ | ⟨h1, h2, h3⟩
          all_goals
            by_cases hb7 : b < 128
          · have e1 : ¬ (k : Int) = 9 := by omega
            have e2 : ¬ (0 : Int) < (k : Int) := by omega
            have HST : Hid (st = (x + b % 128, bs.drop 1, 0)) := Lib.hid (by
              rw [← hR.out]; unfold readAt; rw [if_neg hbad, if_pos hb7, h1]; simp)
            have HW0 : Hid (IntKind.u64.wrap (x + b % 128) = x + b % 128) := Lib.hid (by
              rw [h1, Nat.mul_zero, Int.pow_zero, Int.mul_one] at a0 a1
              rw [IntKind.wrap_u64]; omega)
            have h10 : 1 ≤ bs.length := by omega
            clear hR hbad a0 a1 a2 hx HW HA2 a3
            go_wp2_with fail
            all_goals
              go_ret
              exact SRd.took HST.out HA.out HL.out hBg h10 HW0.out _ (by first | exact Or.inl ⟨by omega, by simp [*]⟩ | exact Or.inr ⟨by omega, _, rfl, by simp [Addr.add]⟩)
          · have e1 : ¬ (k : Int) = 9 := by omega
            have e2 : ¬ (0 : Int) < (k : Int) := by omega
            have HST : Hid (∀ V, V = x + b % 128 → V < 2 ^ (7 * 1) ∧ 0 ≤ V ∧ readAt (bs.drop 1) 1 V bs = st) := Lib.hid fun V hV => by
              have h2 := hR.out
              unfold readAt at h2
              rw [if_neg hbad, if_neg hb7, h1] at h2
              have a3 := a2 (by omega)
              have hx0' := hx0
              rw [h1] at a3 a0
              subst hV
              simp at h2 a3 a0 ⊢
              exact ⟨a3, by omega, h2⟩
            have HW0 : Hid (IntKind.u64.wrap (x + b % 128) = x + b % 128) := Lib.hid (by
              rw [h1, Nat.mul_zero, Int.pow_zero, Int.mul_one] at a0 a1
              rw [IntKind.wrap_u64]; omega)
            clear hR hbad a0 a1 a2 hx HW HA2 a3
            go_wp2_with fail
            go_round
            case rel =>
              obtain ⟨g1, g2, g3⟩ := HST.out _ rfl
              exact ⟨1, x + b % 128, by omega, by omega, by rw [HW0.out], rfl, g2, Lib.hid g1, Lib.hid g3⟩
            case measure => simp [intOf]; omega
          · have e1 : ¬ (k : Int) = 9 := by omega
            have e3 : (b == 0) = false := by simpa using h3
            have e4 : (0 : Int) < (k : Int) := by omega
            have HST : Hid (st = (x + b % 128 * 2 ^ (7 * k), bs.drop (k + 1), 0)) := Lib.hid (by rw [← hR.out]; unfold readAt; rw [if_neg hbad, if_pos hb7])
            clear hR hbad a0 a1 a2 hx HA2 a3
            go_wp2_with fail
            all_goals
              go_ret
              exact SRd.took HST.out HA.out HL.out hBg hlt HW.out _ (by first | exact Or.inl ⟨by omega, by simp [*]⟩ | exact Or.inr ⟨by omega, _, rfl, by simp [Addr.add]⟩)
          · have e1 : ¬ (k : Int) = 9 := by omega
            have e3 : (b == 0) = false := by simpa using h3
            have e4 : (0 : Int) < (k : Int) := by omega
            have HST : Hid (readAt (bs.drop (k + 1)) (k + 1) (x + b % 128 * 2 ^ (7 * k)) bs = st) := Lib.hid (by
              have h2 := hR.out
              unfold readAt at h2
              rwa [if_neg hbad, if_neg hb7] at h2)
            have HA3 := Lib.hid (a2 (by omega))
            clear hR hbad a0 a1 a2 hx HA2
            go_wp2_with fail
            go_round
            case rel => exact ⟨k + 1, x + b % 128 * 2 ^ (7 * k), by omega, by omega, by rw [HW.out], by go_num, a3.out, HA3, HST⟩
            case measure => simp [intOf]; omega
          · have e1 : (k : Int) = 9 := by omega
            have e3 : (b == 0) = false := by simpa using h3
            have e4 : (0 : Int) < (k : Int) := by omega
            have HST : Hid (st = (x + b % 128 * 9223372036854775808, bs.drop 10, 0)) := Lib.hid (by
              have e : (2 : Int) ^ (7 * 9) = 9223372036854775808 := by decide
              rw [← hR.out]; unfold readAt; rw [if_neg hbad, if_pos hb7, h1, e])
            have HW9 : Hid (IntKind.u64.wrap (x + b % 128 * 9223372036854775808) = x + b % 128 * 9223372036854775808) := Lib.hid (by
              have e : (2 : Int) ^ (7 * 9) = 9223372036854775808 := by decide
              rw [h1, e] at a0 a1
              rw [IntKind.wrap_u64]; omega)
            have h10 : 10 ≤ bs.length := by omega
            clear hR hbad a0 a1 a2 hx HW HA2 a3
            go_wp2_with fail
            all_goals
              go_ret
              exact SRd.took HST.out HA.out HL.out hBg h10 HW9.out _ (by first | exact Or.inl ⟨by omega, by simp [*]⟩ | exact Or.inr ⟨by omega, _, rfl, by simp [Addr.add]⟩)
          · omega
      · obtain rfl : k = bs.length := by omega
        have HB : Hid (st = (0, bs, 15)) := Lib.hid (by rw [← hR.out, List.drop_length]; rfl)
        have HF := Lib.hid (hrd.out.err 15)
        clear hR hx
        go_wp2_with fail
        go_ret
        exact ⟨by rw [HB.out]; rfl, by rw [HB.out]; exact HF.out.1, HF.out.2⟩
  · have HE : Hid (stU bs e = (0, bs, e)) := Lib.hid (if_neg he)
    have he2 : (e == 0) = false := by simpa using he
    have he3 : (e != 0) = true := by simpa using he
    clear hL hA
    go_enter Tryz.func72, Tryz.ntmps72
    go_wp2_with fail
    go_ret
    exact ⟨by rw [HE.out]; rfl, by rw [HE.out]; exact hr, Aside.refl _ _ _⟩
end Go.Proofs.YteiilmnehdbdiaaGreatDoor
