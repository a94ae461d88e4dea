/- Law 8's Great, walked. -/
import Derived.Test.YteiilmnehdbdiaaGreatDoorLabD
namespace Go.Proofs.YteiilmnehdbdiaaGreatDoor
open Go.RowKit

def GreatS (n : ByteArray) (ls : List Lab) : Prop := 100 < ls.length ∨ 300 < n.size ∨ ∃ l ∈ ls, 300 < l.1.size ∨ 300 < l.2.size
instance (n : ByteArray) (ls : List Lab) : Decidable (GreatS n ls) := by unfold GreatS; infer_instance

set_option maxRecDepth 100000 in
set_option maxHeartbeats 1000000 in
theorem great8_any (n : ByteArray) (u : Value) (x : List Lab) (w : World) (hx : Labs w w.heap.size u x) :
    Calls Tryz.prog 9 #[.agg #[.string n, u]] w fun e w' => e = .returned (.bool (decide (GreatS n x))) ∧ Below w.heap.size w w' := by
  obtain ⟨A0, c0, rfl⟩ := hx.len
  have hW : Below w.heap.size w (w.alloc (.cells #[.string n, .slice A0 x.length c0] 24)) := grew1 w _
  obtain ⟨a0, a1, -, -⟩ := At2.new w (.string n) (.slice A0 x.length c0) 24
  have LX := Lib.hid (hx.below hW)
  clear hx
  by_cases h1 : 100 < x.length
  · have hE : Hid (decide (GreatS n x) = true) := Lib.hid (decide_eq_true (Or.inl h1))
    have i1 : (100 : Int) < (x.length : Int) := by omega
    go_enter Tryz.func9, Tryz.ntmps9
    go_wp2_with fail
    go_ret
    exact ⟨by rw [hE.out]; rfl, hW⟩
  have i1 : ¬ (100 : Int) < (x.length : Int) := by omega
  by_cases h2 : 300 < n.size
  · have hE : Hid (decide (GreatS n x) = true) := Lib.hid (decide_eq_true (Or.inr (Or.inl h2)))
    have i2 : (300 : Int) < (n.size : Int) := by omega
    go_enter Tryz.func9, Tryz.ntmps9
    go_wp2_with fail
    go_ret
    exact ⟨by rw [hE.out]; rfl, hW⟩
  have i2 : ¬ (300 : Int) < (n.size : Int) := by omega
  go_enter Tryz.func9, Tryz.ntmps9
  go_wp2_with fail
  generalize w.alloc (.cells #[.string n, .slice A0 x.length c0] 24) = W at *
  go_loop [3] (fun i => ∃ k : Nat, k ≤ x.length ∧ i = .int .i64 k ∧ Hid (∀ j (h : j < x.length), j < k → ¬ (300 < x[j].1.size ∨ 300 < x[j].2.size))) (fun i => x.length - (intOf i).toNat)
  case atStart => exact ⟨0, Nat.zero_le _, rfl, Lib.hid fun j _ h => absurd h (by omega)⟩
  case round =>
    obtain ⟨k, hk, rfl, hall⟩ := hrel
    by_cases hlt : k < x.length
    · obtain ⟨ax, rfl, hbx, hcx⟩ := LX.out.at_ (by omega)
      obtain ⟨x0, x1⟩ := hcx k hlt
      rw [add_next] at x1
      have j0 : (0 : Int) ≤ (k : Int) := by omega
      have j1 : (k : Int) < (x.length : Int) := by omega
      clear hcx
      by_cases hb : 300 < x[k].1.size ∨ 300 < x[k].2.size
      · have hE : Hid (decide (GreatS n x) = true) := Lib.hid (decide_eq_true (Or.inr (Or.inr ⟨x[k], List.getElem_mem hlt, hb⟩)))
        generalize x[k].1 = p0 at *
        generalize x[k].2 = p1 at *
        by_cases hb1 : 300 < p0.size
        · have i3 : (300 : Int) < (p0.size : Int) := by omega
          clear hall hb
          go_wp2_with fail
          go_ret
          exact ⟨by rw [hE.out]; rfl, hW⟩
        · have i3 : ¬ (300 : Int) < (p0.size : Int) := by omega
          have i4 : (300 : Int) < (p1.size : Int) := by omega
          clear hall hb
          go_wp2_with fail
          go_ret
          exact ⟨by rw [hE.out]; rfl, hW⟩
      · have hall2 : Hid (∀ j (h : j < x.length), j < k + 1 → ¬ (300 < x[j].1.size ∨ 300 < x[j].2.size)) := Lib.hid fun j hj hjk => by
          by_cases e : j = k
          · subst e; exact hb
          · exact hall.out j hj (by omega)
        clear hall
        generalize x[k].1 = p0 at *
        generalize x[k].2 = p1 at *
        have i3 : ¬ (300 : Int) < (p0.size : Int) := by omega
        have i4 : ¬ (300 : Int) < (p1.size : Int) := by omega
        clear hb
        go_wp2_with fail
        go_round
        case rel => exact ⟨k + 1, hlt, by go_num, hall2⟩
        case measure => simp [intOf]; omega
    · obtain rfl : k = x.length := by omega
      have hE : Hid (decide (GreatS n x) = false) := Lib.hid (decide_eq_false fun h => by
        rcases h with h | h | ⟨l, hl, h⟩
        · exact h1 h
        · exact h2 h
        · obtain ⟨j, hj, rfl⟩ := List.getElem_of_mem hl
          exact hall.out j hj hj h)
      go_wp2_with fail
      go_ret
      exact ⟨by rw [hE.out]; rfl, hW⟩
end Go.Proofs.YteiilmnehdbdiaaGreatDoor
