/- Package code's first: the number at the start of bytes; walked. -/
import Derived.Test.YteiilmnehdbdiaaGreatDoorCodG
import Derived.Deep.CutBlock
import Derived.Deep.DeepCutAuto
import Derived.Deep.RegionHeld3
namespace Go.Proofs.YteiilmnehdbdiaaGreatDoor
open Go.RowKit

/-- What reading a number at the start of bytes answers. -/
def FirstE (bs : List Int) (st : Int × List Int × Int) (e : Ending) : Prop :=
  ∃ (x : Int) (m : Nat) (er : Int), e = .returned (.tuple #[.int .u64 x, .int .i64 m, .int .i64 er]) ∧ ((er = 0 ∧ m ≤ bs.length ∧ st = (x, bs.drop m, 0)) ∨ (er ≠ 0 ∧ x = 0 ∧ m = 0 ∧ st = (0, bs, er)))
theorem FirstE.ok {bs : List Int} {st : Int × List Int × Int} {x a b : Int} {m : Nat} (hst : st = (x, bs.drop m, 0)) (hm : m ≤ bs.length) (ha : a = x) (hb : b = (m : Int)) : FirstE bs st (.returned (.tuple #[.int .u64 a, .int .i64 b, .int .i64 0])) := by
  subst ha; subst hb
  exact ⟨a, m, 0, rfl, Or.inl ⟨rfl, hm, hst⟩⟩
theorem FirstE.no {bs : List Int} {st : Int × List Int × Int} {er : Int} (hst : st = (0, bs, er)) (he : er ≠ 0) : FirstE bs st (.returned (.tuple #[.int .u64 0, .int .i64 0, .int .i64 er])) := ⟨0, 0, er, rfl, Or.inr ⟨he, rfl, rfl, hst⟩⟩

set_option maxRecDepth 100000 in
set_option maxHeartbeats 4000000 in
theorem first6_any (B : Nat) (v : Value) (bs : List Int) (w : World) (hl : Lst w B .u8 v bs) (hb : ∀ c ∈ bs, 0 ≤ c ∧ c ≤ 255) (hn : bs.length ≤ 1000000) :
    Calls Tryz.prog 83 #[v] w fun e w' => FirstE bs (readU bs) e ∧ w = w' := by
  obtain ⟨A, c, rfl⟩ := hl.len
  have HR0 : Hid (readAt (bs.drop 0) 0 0 bs = readU bs) := Lib.hid rfl
  have HL := Lib.hid hl
  have HBY := Lib.hid hb
  clear hl hb
  generalize readU bs = st at *
  go_enter Tryz.func83, Tryz.ntmps83
  go_wp2_with fail
  go_loop [5, 10] (fun v i => ∃ (k : Nat) (x : Int), k ≤ 9 ∧ k ≤ bs.length ∧ v = .int .u64 x ∧ i = .int .i64 k ∧ 0 ≤ x ∧ Hid (x < 2 ^ (7 * k)) ∧ Hid (readAt (bs.drop k) k x bs = st)) (fun _ i => 10 - (intOf i).toNat)
  case atStart => exact ⟨0, 0, by omega, by omega, rfl, rfl, Int.le_refl _, Lib.hid (by decide), HR0⟩
  case round =>
    clear HR0
    obtain ⟨k, x, hk9, hkl, rfl, rfl, hx0, hx, hR⟩ := hrel
    have k9 : (k : Int) < 10 := by omega
    by_cases hlt : k < bs.length
    · obtain ⟨A', c', e', _, hr⟩ := HL.out
      obtain ⟨ad, rfl, hab, hcell⟩ := hr (by omega)
      obtain rfl : A = some ad := by injection e'
      clear e' hr
      have hcc := HBY.out _ (List.getElem_mem hlt)
      have cc : w.cell? (ad.add k) = some (.int .u8 bs[k]) := hcell k hlt
      have HS : Hid (bs.drop k = bs[k] :: bs.drop (k + 1)) := Lib.hid (List.drop_eq_getElem_cons hlt)
      rw [HS.out] at hR
      have k0 : (0 : Int) ≤ (k : Int) := by omega
      have k1 : (k : Int) < (bs.length : Int) := by omega
      clear hcell
      generalize bs[k] = b at *
      obtain ⟨b0, b1⟩ := hcc
      go_upto_region 5 with fail
      by_cases hbad : (k = 9 ∧ 1 < b) ∨ (0 < k ∧ b = 0)
      · have HB : Hid (st = (0, bs, 10)) := Lib.hid (by rw [← hR.out]; unfold readAt; rw [if_pos hbad])
        clear hR hx HS HBY
        rcases (show (0 < k ∧ b = 0) ∨ (k = 9 ∧ b ≠ 0 ∧ 1 < b) by omega) with ⟨h1, h2⟩ | ⟨h1, h2, h3⟩
        · have e2 : (0 : Int) < (k : Int) := by omega
          have e3 : (b == 0) = true := by simpa using h2
          clear hbad
          go_wp2_with fail
          go_ret3
          exact ⟨FirstE.no HB.out (by decide), rfl⟩
        · have e1 : ((k : Int) == 9) = true := by simp; omega
          have e2 : (0 : Int) < (k : Int) := by omega
          have e3 : (b == 0) = false := by simpa using h2
          clear hbad
          go_wp2_with fail
          go_ret3
          exact ⟨FirstE.no HB.out (by decide), rfl⟩
      · obtain ⟨a0, a1, a2⟩ := acc_bd hk9 hx0 hx.out b0 (fun h => hbad (Or.inl h))
        have HW : Hid (bits .or .u64 x (IntKind.u64.wrap (b % 128 * 2 ^ (7 * k))) = x + b % 128 * 2 ^ (7 * k)) := Lib.hid (by
          have w1 : IntKind.u64.wrap (b % 128 * 2 ^ (7 * k)) = b % 128 * 2 ^ (7 * k) := by rw [IntKind.wrap_u64]; omega
          rw [w1, or64_join hx0 hx.out (by omega) a1])
        have HA2 := Lib.hid a2
        have a3 : Hid (0 ≤ x + b % 128 * 2 ^ (7 * k)) := Lib.hid (by omega)
        rcases (show (k = 0) ∨ (0 < k ∧ k ≠ 9 ∧ b ≠ 0) ∨ (k = 9 ∧ ¬ 1 < b ∧ b ≠ 0) by omega) with h1 | ⟨h1, h2, h3⟩ | ⟨h1, h2, h3⟩
        all_goals
          by_cases hb7 : b < 128
        · have e1 : ¬ (k : Int) = 9 := by omega
          have e2 : ¬ (0 : Int) < (k : Int) := by omega
          have HST : Hid (st = (x + b % 128, bs.drop 1, 0)) := Lib.hid (by
            rw [← hR.out]; unfold readAt; rw [if_neg hbad, if_pos hb7, h1]; simp)
          have HW0 : Hid (bits .or .u64 x (b % 128) = x + b % 128) := Lib.hid (by
            have h := or64_join (k := k) hx0 hx.out (c := b % 128) (by omega) a1
            rw [h1, Nat.mul_zero, Int.pow_zero, Int.mul_one] at h
            exact h)
          have h10 : 1 ≤ bs.length := by omega
          clear hR hbad a0 a1 a2 hx HW HA2 a3
          go_wp2_with fail
          go_ret3
          exact ⟨FirstE.ok HST.out h10 HW0.out rfl, rfl⟩
        · have e1 : ¬ (k : Int) = 9 := by omega
          have e2 : ¬ (0 : Int) < (k : Int) := by omega
          have HST : Hid (∀ V, V = x + b % 128 → V < 2 ^ (7 * 1) ∧ 0 ≤ V ∧ readAt (bs.drop 1) 1 V bs = st) := Lib.hid fun V hV => by
            have h2 := hR.out
            unfold readAt at h2
            rw [if_neg hbad, if_neg hb7, h1] at h2
            have a3 := a2 (by omega)
            have hx0' := hx0
            rw [h1] at a3 a0
            subst hV
            simp at h2 a3 a0 ⊢
            exact ⟨a3, by omega, h2⟩
          have HW0 : Hid (bits .or .u64 x (b % 128) = x + b % 128) := Lib.hid (by
            have h := or64_join (k := k) hx0 hx.out (c := b % 128) (by omega) a1
            rw [h1, Nat.mul_zero, Int.pow_zero, Int.mul_one] at h
            exact h)
          clear hR hbad a0 a1 a2 hx HW HA2 a3
          go_wp2_with fail
          go_round
          case rel =>
            obtain ⟨g1, g2, g3⟩ := HST.out _ rfl
            exact ⟨1, x + b % 128, by omega, by omega, by rw [HW0.out], rfl, g2, Lib.hid g1, Lib.hid g3⟩
          case measure => simp [intOf]; omega
        · have e1 : ¬ (k : Int) = 9 := by omega
          have e3 : (b == 0) = false := by simpa using h3
          have e4 : (0 : Int) < (k : Int) := by omega
          have HST : Hid (st = (x + b % 128 * 2 ^ (7 * k), bs.drop (k + 1), 0)) := Lib.hid (by rw [← hR.out]; unfold readAt; rw [if_neg hbad, if_pos hb7])
          clear hR hbad a0 a1 a2 hx HA2 a3
          go_wp2_with fail
          go_ret3
          exact ⟨FirstE.ok HST.out hlt HW.out (by omega), rfl⟩
        · have e1 : ¬ (k : Int) = 9 := by omega
          have e3 : (b == 0) = false := by simpa using h3
          have e4 : (0 : Int) < (k : Int) := by omega
          have HST : Hid (readAt (bs.drop (k + 1)) (k + 1) (x + b % 128 * 2 ^ (7 * k)) bs = st) := Lib.hid (by
            have h2 := hR.out
            unfold readAt at h2
            rwa [if_neg hbad, if_neg hb7] at h2)
          have HA3 := Lib.hid (a2 (by omega))
          clear hR hbad a0 a1 a2 hx HA2
          go_wp2_with fail
          go_round
          case rel => exact ⟨k + 1, x + b % 128 * 2 ^ (7 * k), by omega, by omega, by rw [HW.out], by go_num, a3.out, HA3, HST⟩
          case measure => simp [intOf]; omega
        · have e1 : (k : Int) = 9 := by omega
          have e3 : (b == 0) = false := by simpa using h3
          have e4 : (0 : Int) < (k : Int) := by omega
          have HST : Hid (st = (x + b % 128 * 2 ^ (7 * k), bs.drop (k + 1), 0)) := Lib.hid (by rw [← hR.out]; unfold readAt; rw [if_neg hbad, if_pos hb7])
          have HW9 : Hid (bits .or .u64 x (b % 128 * 9223372036854775808) = x + b % 128 * 2 ^ (7 * k)) := Lib.hid (by
            have h := or64_join (k := k) hx0 hx.out (c := b % 128) (by omega) a1
            have e : (2 : Int) ^ (7 * k) = 9223372036854775808 := by rw [h1]; decide
            rw [e] at h ⊢
            exact h)
          clear hR hbad a0 a1 a2 hx HA2 a3
          go_wp2_with fail
          go_ret3
          exact ⟨FirstE.ok HST.out hlt HW9.out (by omega), rfl⟩
        · exfalso; omega
    · obtain rfl : k = bs.length := by omega
      have HB : Hid (st = (0, bs, 15)) := Lib.hid (by rw [← hR.out, List.drop_length]; rfl)
      clear hR hx
      go_wp2_with fail
      go_ret3
      exact ⟨FirstE.no HB.out (by decide), rfl⟩
end Go.Proofs.YteiilmnehdbdiaaGreatDoor
