/- noonmarkref08's Value and order, walked. -/
import Derived.Test.YteiilmnehdbdiaaGreatDoorLabA
namespace Go.Proofs.YteiilmnehdbdiaaGreatDoor
open Go.RowKit

set_option maxRecDepth 100000 in
set_option maxHeartbeats 1000000 in
theorem rValue8_any (s : ByteArray) (w : World) (hs : s.size ≤ 1000000) : Calls Tryz.prog 40 #[.string s] w fun e w' => e = .returned (.bool (decide (IsVal s))) ∧ w = w' := by
  by_cases h9 : 64 < s.size
  · have hE : Hid (decide (IsVal s) = false) := Lib.hid (decide_eq_false fun h => absurd h.1 (by omega))
    have h2 : (64 : Int) < (s.size : Int) := by omega
    go_enter Tryz.func40, Tryz.ntmps40
    go_wp2_with fail
    go_ret
    exact ⟨by rw [hE.out]; rfl, rfl⟩
  have h2 : ¬ (64 : Int) < (s.size : Int) := by omega
  go_enter Tryz.func40, Tryz.ntmps40
  go_wp2_with fail
  go_loop [3] (fun i => ∃ k : Nat, k ≤ s.size ∧ i = .int .i64 k ∧ Hid (∀ j (h : j < s.size), j < k → valOk s[j].toNat = true)) (fun i => s.size - (intOf i).toNat)
  case atStart => exact ⟨0, Nat.zero_le _, rfl, Lib.hid fun j _ h => absurd h (by omega)⟩
  case round =>
    obtain ⟨k, hk, rfl, hall⟩ := hrel
    by_cases hlt : k < s.size
    · have j0 : (0 : Int) ≤ (k : Int) := by omega
      have j1 : (k : Int) < (s.size : Int) := by omega
      by_cases hok : 33 ≤ s[k].toNat ∧ s[k].toNat ≤ 126 ∧ s[k].toNat ≠ 44 ∧ s[k].toNat ≠ 61 ∧ s[k].toNat ≠ 123 ∧ s[k].toNat ≠ 125
      · have hall2 : Hid (∀ j (h : j < s.size), j < k + 1 → valOk s[j].toNat = true) := Lib.hid fun j hj hjk => by
          by_cases e : j = k
          · subst e; unfold valOk; simpa using hok
          · exact hall.out j hj (by omega)
        have hok := Lib.hid hok
        clear hall
        go_wp2_with fail
        all_goals first
          | (exfalso; have := hok.out; simp at *; omega)
          | (refine ⟨⟨k + 1, hlt, by go_num, hall2⟩, ?_⟩; simp [intOf]; omega)
      · have hE : Hid (decide (IsVal s) = false) := Lib.hid (decide_eq_false fun h => hok (by have := h.2 k hlt; unfold valOk at this; simpa using this))
        have hok := Lib.hid hok
        clear hall
        go_wp2_with fail
        all_goals first
          | (go_ret; exact ⟨by rw [hE.out]; rfl, rfl⟩)
          | (exfalso; subst_vars; have := hok.out; simp at *; omega)
    · obtain rfl : k = s.size := by omega
      have hE : Hid (decide (IsVal s) = true) := Lib.hid (decide_eq_true ⟨by omega, fun i h => hall.out i h h⟩)
      go_wp2_with fail
      go_ret
      exact ⟨by rw [hE.out]; rfl, rfl⟩

set_option maxRecDepth 100000 in
set_option maxHeartbeats 1000000 in
theorem rOrder8_any (a b : ByteArray) (w : World) : Calls Tryz.prog 63 #[.string a, .string b] w fun e w' => e = .returned (.int .i64 (ordS a b)) ∧ w = w' := by
  rcases ltS_or a b with rfl | h | h
  · have hl : Op.bytesLess a.toList a.toList = false := less_irrefl _
    have hE := Lib.hid (ordS_self a)
    go_enter Tryz.func63, Tryz.ntmps63
    go_wp2_with fail
    go_ret
    exact ⟨by rw [hE.out]; rfl, rfl⟩
  · have hE := Lib.hid (ordS_lt.2 h)
    unfold ltS at h
    go_enter Tryz.func63, Tryz.ntmps63
    go_wp2_with fail
    go_ret
    exact ⟨by rw [hE.out]; rfl, rfl⟩
  · have hE : Hid (ordS a b = 1) := Lib.hid (by rw [ordS_neg, ordS_lt.2 h]; rfl)
    have hl : Op.bytesLess a.toList b.toList = false := ltS_not h
    have he : (a.toList == b.toList) = false := by
      rw [beq_eq_false_iff_ne]
      exact fun e => ltS_ne h (toList_one.1 e).symm
    clear h
    go_enter Tryz.func63, Tryz.ntmps63
    go_wp2_with fail
    go_ret
    exact ⟨by rw [hE.out]; rfl, rfl⟩
end Go.Proofs.YteiilmnehdbdiaaGreatDoor
