/- noonmarkref08's Right, walked. -/
import Derived.Test.YteiilmnehdbdiaaGreatDoorLabD
namespace Go.Proofs.YteiilmnehdbdiaaGreatDoor
open Go.RowKit

set_option maxRecDepth 100000 in
set_option maxHeartbeats 2000000 in
theorem rRight8_any (n : ByteArray) (u : Value) (x : List Lab) (w : World) (hx : Labs w w.heap.size u x) (hn : n.size ≤ 1000000) (hz : ∀ l ∈ x, l.1.size ≤ 1000000 ∧ l.2.size ≤ 1000000) :
    Calls Tryz.prog 15 #[.agg #[.string n, u]] w fun e w' => e = .returned (.bool (decide (IsRight n x))) ∧ Below w.heap.size w w' := by
  obtain ⟨A0, c0, rfl⟩ := hx.len
  have hW : Below w.heap.size w (w.alloc (.cells #[.string n, .slice A0 x.length c0] 32)) := grew1 w _
  obtain ⟨a0, a1, -, -⟩ := At2.new w (.string n) (.slice A0 x.length c0) 32
  have LX := Lib.hid (hx.below hW)
  have HZ := Lib.hid hz
  have CN := Lib.hid fun W => rName8_any n W hn
  clear hx hz
  by_cases hnm : IsName n
  case neg =>
    have hE : Hid (decide (IsRight n x) = false) := Lib.hid (decide_eq_false fun h => hnm h.1)
    rw [decide_eq_false hnm] at CN
    go_enter Tryz.func15, Tryz.ntmps15
    go_wp2_with fail
    refine (CN.out _).mono ?_; rintro e w1 ⟨rfl, rfl⟩
    go_wp2_with fail
    go_ret
    exact ⟨by rw [hE.out]; rfl, hW⟩
  rw [decide_eq_true hnm] at CN
  by_cases h1 : 8 < x.length
  · have hE : Hid (decide (IsRight n x) = false) := Lib.hid (decide_eq_false fun h => absurd h.2.1 (by omega))
    have i1 : (8 : Int) < (x.length : Int) := by omega
    go_enter Tryz.func15, Tryz.ntmps15
    go_wp2_with fail
    refine (CN.out _).mono ?_; rintro e w1 ⟨rfl, rfl⟩
    go_wp2_with fail
    go_ret
    exact ⟨by rw [hE.out]; rfl, hW⟩
  have i1 : ¬ (8 : Int) < (x.length : Int) := by omega
  have HR : Hid (RightTo x x.length → IsRight n x) := Lib.hid fun h => right_to.2 ⟨hnm, by omega, h⟩
  have HRn : Hid (IsRight n x → RightTo x x.length) := Lib.hid fun h => (right_to.1 h).2.2
  clear hnm
  go_enter Tryz.func15, Tryz.ntmps15
  go_wp2_with fail
  refine (CN.out _).mono ?_; rintro e w1 ⟨rfl, rfl⟩
  go_wp2_with fail
  generalize w.alloc (.cells #[.string n, .slice A0 x.length c0] 32) = W at *
  go_loopw [3] (fun i wr => ∃ k : Nat, (∃ d, W.drewN d = wr) ∧ k ≤ x.length ∧ i = .int .i64 k ∧ Hid (RightTo x k)) (fun i _ => x.length - (intOf i).toNat)
  case atStart => exact ⟨0, ⟨0, rfl⟩, Nat.zero_le _, rfl, Lib.hid (rightTo_zero x)⟩
  case round =>
    obtain ⟨k, ⟨d, rfl⟩, hk, rfl, hall⟩ := hrel
    by_cases hlt : k < x.length
    · obtain ⟨ax, rfl, hbx, hcx⟩ := LX.out.at_ (by omega)
      obtain ⟨x0, x1⟩ := hcx k hlt
      rw [add_next] at x1
      have j0 : (0 : Int) ≤ (k : Int) := by omega
      have j1 : (k : Int) < (x.length : Int) := by omega
      have C1 := Lib.hid fun W => rName8_any x[k].1 W (HZ.out _ (List.getElem_mem hlt)).1
      have C2 := Lib.hid fun W => rValue8_any x[k].2 W (HZ.out _ (List.getElem_mem hlt)).2
      by_cases g1 : IsName x[k].1
      case neg =>
        have hE : Hid (decide (IsRight n x) = false) := Lib.hid (decide_eq_false fun h => g1 (HRn.out h k hlt hlt).1)
        rw [decide_eq_false g1] at C1
        clear hcx hall
        generalize x[k].1 = p0 at *
        generalize x[k].2 = p1 at *
        clear g1
        go_wp2_with fail
        go_quiet (first | (go_at_call 39; exact (C1.out _).mono fun _ _ h => ⟨h.1, _, h.2.symm⟩) | (go_at_call 40; exact (C2.out _).mono fun _ _ h => ⟨h.1, _, h.2.symm⟩))
        go_wp2_with fail
        go_ret
        exact ⟨by rw [hE.out]; rfl, below_drewN (below_drewN hW _) _⟩
      rw [decide_eq_true g1] at C1
      by_cases g2 : IsVal x[k].2
      case neg =>
        have hE : Hid (decide (IsRight n x) = false) := Lib.hid (decide_eq_false fun h => g2 (HRn.out h k hlt hlt).2.1)
        rw [decide_eq_false g2] at C2
        clear hcx hall g1
        generalize x[k].1 = p0 at *
        generalize x[k].2 = p1 at *
        clear g2
        go_wp2_with fail
        go_quiet (first | (go_at_call 39; exact (C1.out _).mono fun _ _ h => ⟨h.1, _, h.2.symm⟩) | (go_at_call 40; exact (C2.out _).mono fun _ _ h => ⟨h.1, _, h.2.symm⟩))
        go_wp2_with fail
        go_ret
        exact ⟨by rw [hE.out]; rfl, below_drewN (below_drewN hW _) _⟩
      rw [decide_eq_true g2] at C2
      by_cases hk0 : k = 0
      · have hall2 := Lib.hid (rightTo_next hlt hall.out g1 g2 (fun i h => by omega))
        have hkN : ¬ 0 < k := by omega
        clear hcx hall g1 g2 hk0
        generalize x[k].1 = p0 at *
        generalize x[k].2 = p1 at *
        go_wp2_with fail
        go_quiet (first | (go_at_call 39; exact (C1.out _).mono fun _ _ h => ⟨h.1, _, h.2.symm⟩) | (go_at_call 40; exact (C2.out _).mono fun _ _ h => ⟨h.1, _, h.2.symm⟩))
        go_wp2_with fail
        go_roundw
        case rel => exact ⟨k + 1, ⟨_, by first | rfl | (simp; rfl)⟩, hlt, by go_num, hall2⟩
        case measure => simp [intOf]; omega
      · obtain ⟨j, rfl⟩ : ∃ j, k = j + 1 := ⟨k - 1, by omega⟩
        have hkP : 0 < j + 1 := by omega
        have hk1 : ((j + 1 : Nat) : Int) - 1 = (j : Int) := by omega
        have j2 : (0 : Int) ≤ (j : Int) := by omega
        have j3 : (j : Int) < (x.length : Int) := by omega
        have y0 := (hcx j (by omega)).1
        by_cases g3 : ltS (x[j]'(by omega)).1 x[j + 1].1 = true
        · have hall2 := Lib.hid (rightTo_next hlt hall.out g1 g2 (fun i h => by obtain rfl : i = j := (by omega); exact g3))
          unfold ltS at g3
          clear hcx hall g1 g2 hk0
          generalize x[j + 1].1 = p0 at *
          generalize x[j + 1].2 = p1 at *
          generalize (x[j]'(by omega)).1 = p2 at *
          generalize hkj : j + 1 = k at *
          go_wp2_with fail
          go_quiet (first | (go_at_call 39; exact (C1.out _).mono fun _ _ h => ⟨h.1, _, h.2.symm⟩) | (go_at_call 40; exact (C2.out _).mono fun _ _ h => ⟨h.1, _, h.2.symm⟩))
          go_wp2_with fail
          go_roundw
          case rel => exact ⟨k + 1, ⟨_, by first | rfl | (simp; rfl)⟩, hlt, by go_num, hall2⟩
          case measure => simp [intOf]; omega
        · have hE : Hid (decide (IsRight n x) = false) := Lib.hid (decide_eq_false fun h => g3 ((HRn.out h (j + 1) hlt hlt).2.2 j rfl))
          have g4 : Op.bytesLess (x[j]'(by omega)).1.toList x[j + 1].1.toList = false := by simpa [ltS] using g3
          clear hcx hall g1 g2 hk0 g3
          generalize x[j + 1].1 = p0 at *
          generalize x[j + 1].2 = p1 at *
          generalize (x[j]'(by omega)).1 = p2 at *
          generalize hkj : j + 1 = k at *
          go_wp2_with fail
          go_quiet (first | (go_at_call 39; exact (C1.out _).mono fun _ _ h => ⟨h.1, _, h.2.symm⟩) | (go_at_call 40; exact (C2.out _).mono fun _ _ h => ⟨h.1, _, h.2.symm⟩))
          go_wp2_with fail
          go_ret
          exact ⟨by rw [hE.out]; rfl, below_drewN (below_drewN hW _) _⟩
    · obtain rfl : k = x.length := by omega
      have hE : Hid (decide (IsRight n x) = true) := Lib.hid (decide_eq_true (HR.out hall.out))
      go_wp2_with fail
      go_ret
      exact ⟨by rw [hE.out]; rfl, below_drewN hW _⟩
end Go.Proofs.YteiilmnehdbdiaaGreatDoor
