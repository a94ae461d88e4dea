/- noonmarkref08's name, Value, order, walked. -/
import Derived.Test.YteiilmnehdbdiaaGreatDoorRows
import Derived.Test.YteiilmnehdbdiaaGreatDoorNum
import Derived.Test.YteiilmnehdbdiaaGreatDoorLab
import Derived.WalkSpells
import Derived.WalkLawsBesides
namespace Go.Proofs.YteiilmnehdbdiaaGreatDoor
open Go.RowKit

/-- A byte's tests, in the walk's own spelling. -/
theorem nameOk_eq (i c : Nat) : nameOk i c = (decide (97 ≤ c ∧ c ≤ 122) || (decide (0 < i) && (decide (c = 95) || decide (48 ≤ c ∧ c ≤ 57)))) := rfl

set_option maxRecDepth 100000 in
set_option maxHeartbeats 1000000 in
theorem rName8_any (s : ByteArray) (w : World) (hs : s.size ≤ 1000000) : Calls Tryz.prog 39 #[.string s] w fun e w' => e = .returned (.bool (decide (IsName s))) ∧ w = w' := by
  by_cases h0 : s.size < 1
  · have hE : Hid (decide (IsName s) = false) := Lib.hid (decide_eq_false fun h => absurd h.1 (by omega))
    have h1 : (s.size : Int) < 1 := by omega
    go_enter Tryz.func39, Tryz.ntmps39
    go_wp2_with fail
    go_ret
    exact ⟨by rw [hE.out]; rfl, rfl⟩
  by_cases h9 : 64 < s.size
  · have hE : Hid (decide (IsName s) = false) := Lib.hid (decide_eq_false fun h => absurd h.2.1 (by omega))
    have h1 : ¬ (s.size : Int) < 1 := by omega
    have h2 : (64 : Int) < (s.size : Int) := by omega
    go_enter Tryz.func39, Tryz.ntmps39
    go_wp2_with fail
    go_ret
    exact ⟨by rw [hE.out]; rfl, rfl⟩
  have h1 : ¬ (s.size : Int) < 1 := by omega
  have h2 : ¬ (64 : Int) < (s.size : Int) := by omega
  go_enter Tryz.func39, Tryz.ntmps39
  go_wp2_with fail
  go_loop [3] (fun i => ∃ k : Nat, k ≤ s.size ∧ i = .int .i64 k ∧ Hid (∀ j (h : j < s.size), j < k → nameOk j s[j].toNat = true)) (fun i => s.size - (intOf i).toNat)
  case atStart => exact ⟨0, Nat.zero_le _, rfl, Lib.hid fun j _ h => absurd h (by omega)⟩
  case round =>
    obtain ⟨k, hk, rfl, hall⟩ := hrel
    by_cases hlt : k < s.size
    · have j0 : (0 : Int) ≤ (k : Int) := by omega
      have j1 : (k : Int) < (s.size : Int) := by omega
      by_cases hok : (97 ≤ s[k].toNat ∧ s[k].toNat ≤ 122) ∨ (0 < k ∧ (s[k].toNat = 95 ∨ (48 ≤ s[k].toNat ∧ s[k].toNat ≤ 57)))
      · have hall2 : Hid (∀ j (h : j < s.size), j < k + 1 → nameOk j s[j].toNat = true) := Lib.hid fun j hj hjk => by
          by_cases e : j = k
          · subst e; unfold nameOk; simpa using hok
          · exact hall.out j hj (by omega)
        have hok := Lib.hid hok
        clear hall
        go_wp2_with fail
        all_goals first
          | (exfalso; have := hok.out; simp at *; omega)
          | (refine ⟨⟨k + 1, hlt, by go_num, hall2⟩, ?_⟩; simp [intOf]; omega)
      · have hE : Hid (decide (IsName s) = false) := Lib.hid (decide_eq_false fun h => hok (by have := h.2.2 k hlt; unfold nameOk at this; simpa using this))
        have hok := Lib.hid hok
        clear hall
        go_wp2_with fail
        all_goals first
          | (go_ret; exact ⟨by rw [hE.out]; rfl, rfl⟩)
          | (exfalso; subst_vars; have := hok.out; simp at *; omega)
    · obtain rfl : k = s.size := by omega
      have hE : Hid (decide (IsName s) = true) := Lib.hid (decide_eq_true ⟨by omega, by omega, fun i h => hall.out i h h⟩)
      go_wp2_with fail
      go_ret
      exact ⟨by rw [hE.out]; rfl, rfl⟩
end Go.Proofs.YteiilmnehdbdiaaGreatDoor
