/- noonmarkref08's Compare and Same, walked. -/
import Derived.Test.YteiilmnehdbdiaaGreatDoorLabB
import Derived.Test.YteiilmnehdbdiaaGreatDoorLabM
import Derived.Deep.QuietTactic
import Derived.BigQuiet
namespace Go.Proofs.YteiilmnehdbdiaaGreatDoor
open Go.RowKit

theorem add_next (a : Addr) (n : Nat) : a.add (n + 1) = ⟨(a.add n).block, (a.add n).off + 1, none⟩ := by
  unfold Addr.add
  split
  · omega
  · split
    · next h => subst h; rfl
    · rfl
set_option maxRecDepth 100000 in
set_option maxHeartbeats 1000000 in
theorem rCompare8_any (n m : ByteArray) (u v : Value) (x y : List Lab) (w : World) (hx : Labs w w.heap.size u x) (hy : Labs w w.heap.size v y) (nx : x.length ≤ 1000000) (ny : y.length ≤ 1000000) :
    Calls Tryz.prog 41 #[.agg #[.string n, u], .agg #[.string m, v]] w fun e w' => e = .returned (.int .i64 (cmpI n m x y)) ∧ Below w.heap.size w w' := by
  obtain ⟨A0, c0, rfl⟩ := hx.len
  obtain ⟨A1, c1, rfl⟩ := hy.len
  have CO := Lib.hid fun a b W => rOrder8_any a b W
  have hW : Below w.heap.size w ((w.alloc (.cells #[.string n, .slice A0 x.length c0] 32)).alloc (.cells #[.string m, .slice A1 y.length c1] 32)) := grew2 w _ _
  have aX := (At2.new w (.string n) (.slice A0 x.length c0) 32).alloc (.cells #[.string m, .slice A1 y.length c1] 32)
  have aY := At2.new (w.alloc (.cells #[.string n, .slice A0 x.length c0] 32)) (.string m) (.slice A1 y.length c1) 32
  have LX := Lib.hid (hx.below hW)
  have LY := Lib.hid (hy.below hW)
  rw [World.size_alloc] at aY
  clear hx hy
  go_enter Tryz.func41, Tryz.ntmps41
  go_wp2_with fail
  generalize (w.alloc (.cells #[.string n, .slice A0 x.length c0] 32)).alloc (.cells #[.string m, .slice A1 y.length c1] 32) = W at *
  refine (CO.out _ _ _).mono ?_; rintro e w1 ⟨rfl, rfl⟩
  obtain ⟨a0, a1, -, -⟩ := aX
  obtain ⟨b0, b1, -, -⟩ := aY
  go_wp2_with fail
  go_loopw [5, 6] (fun o i wr => ∃ (k : Nat) (z : Int), (∃ d, W.drewN d = wr) ∧ k ≤ x.length ∧ k ≤ y.length ∧ i = .int .i64 k ∧ o = .int .i64 z ∧ Hid (cmpI n m x y = if z ≠ 0 then z else cmpL (x.drop k) (y.drop k))) (fun _ i _ => x.length - (intOf i).toNat)
  case atStart => exact ⟨0, _, ⟨0, rfl⟩, Nat.zero_le _, Nat.zero_le _, rfl, rfl, Lib.hid rfl⟩
  case round =>
    obtain ⟨k, z, ⟨d, rfl⟩, hkx, hky, rfl, rfl, hz⟩ := hrel
    have hW := below_drewN hW d
    by_cases hz0 : z = 0
    · subst hz0
      by_cases hx1 : k < x.length
      · by_cases hy1 : k < y.length
        · have i1 : (k : Int) < (x.length : Int) := by omega
          have i2 : (k : Int) < (y.length : Int) := by omega
          obtain ⟨ax, rfl, hbx, hcx⟩ := LX.out.at_ (by omega)
          obtain ⟨ay, rfl, hby, hcy⟩ := LY.out.at_ (by omega)
          obtain ⟨x0, x1⟩ := hcx k hx1
          obtain ⟨y0, y1⟩ := hcy k hy1
          rw [add_next] at x1 y1
          have hN : Hid (cmpI n m x y = if ordS x[k].1 y[k].1 ≠ 0 then ordS x[k].1 y[k].1 else if ordS x[k].2 y[k].2 ≠ 0 then ordS x[k].2 y[k].2 else cmpL (x.drop (k + 1)) (y.drop (k + 1))) := Lib.hid (by rw [hz.out, if_neg (by simp), List.drop_eq_getElem_cons hx1, List.drop_eq_getElem_cons hy1, cmpL])
          generalize x[k].1 = p0 at *
          generalize x[k].2 = p1 at *
          generalize y[k].1 = q0 at *
          generalize y[k].2 = q1 at *
          have i0 : (0 : Int) ≤ (k : Int) := by omega
          clear hz hcx hcy
          go_wp2_with fail
          by_cases h0 : ordS p0 q0 = 0
          · have HN2 : Hid (cmpI n m x y = if ordS p1 q1 ≠ 0 then ordS p1 q1 else cmpL (x.drop (k + 1)) (y.drop (k + 1))) := Lib.hid (by rw [hN.out, if_neg (by simpa using h0)])
            go_quiet ((go_at_call 63; exact (rOrder8_any _ _ _).mono fun _ _ h => ⟨h.1, _, h.2.symm⟩))
            go_wp2_with fail
            go_quiet ((go_at_call 63; exact (rOrder8_any _ _ _).mono fun _ _ h => ⟨h.1, _, h.2.symm⟩))
            go_wp2_with fail
            go_roundw
            case rel => exact ⟨k + 1, _, ⟨_, by first | rfl | (simp; rfl)⟩, hx1, hy1, by go_num, rfl, HN2⟩
            case measure => simp [intOf]; omega
          · have HN2 : Hid (cmpI n m x y = if ordS p0 q0 ≠ 0 then ordS p0 q0 else cmpL (x.drop (k + 1)) (y.drop (k + 1))) := Lib.hid (by rw [hN.out, if_pos h0, if_pos h0])
            have h00 : (ordS p0 q0 == 0) = false := by simpa using h0
            go_quiet ((go_at_call 63; exact (rOrder8_any _ _ _).mono fun _ _ h => ⟨h.1, _, h.2.symm⟩))
            go_wp2_with fail
            go_roundw
            case rel => exact ⟨k + 1, _, ⟨_, by first | rfl | (simp; rfl)⟩, hx1, hy1, by go_num, rfl, HN2⟩
            case measure => simp [intOf]; omega
        · have hE : Hid (cmpI n m x y = 1) := Lib.hid (by rw [hz.out, if_neg (by simp), show y.drop k = [] from List.drop_eq_nil_of_le (by omega), List.drop_eq_getElem_cons hx1]; rfl)
          have i1 : (k : Int) < (x.length : Int) := by omega
          have i2 : ¬ (k : Int) < (y.length : Int) := by omega
          go_wp2_with fail
          go_ret
          exact ⟨by rw [hE.out]; rfl, hW⟩
      · have i1 : ¬ (k : Int) < (x.length : Int) := by omega
        by_cases hy1 : k < y.length
        · have hE : Hid (cmpI n m x y = -1) := Lib.hid (by rw [hz.out, if_neg (by simp), show x.drop k = [] from List.drop_eq_nil_of_le (by omega), List.drop_eq_getElem_cons hy1]; rfl)
          have i2 : (k : Int) < (y.length : Int) := by omega
          go_wp2_with fail
          go_ret
          exact ⟨by rw [hE.out]; rfl, hW⟩
        · have hE : Hid (cmpI n m x y = 0) := Lib.hid (by rw [hz.out, if_neg (by simp), show x.drop k = [] from List.drop_eq_nil_of_le (by omega), show y.drop k = [] from List.drop_eq_nil_of_le (by omega)]; rfl)
          have i2 : ¬ (k : Int) < (y.length : Int) := by omega
          go_wp2_with fail
          go_ret
          exact ⟨by rw [hE.out]; rfl, hW⟩
    · have hE : Hid (cmpI n m x y = z) := Lib.hid (by rw [hz.out, if_pos hz0])
      have hz1 : (z == 0) = false := by simpa using hz0
      go_wp2_with fail
      go_ret
      exact ⟨by rw [hE.out]; rfl, hW⟩
theorem cmpI_zero {n m : ByteArray} {x y : List Lab} : cmpI n m x y = 0 ↔ n = m ∧ x = y := by
  unfold cmpI
  by_cases h : ordS n m = 0
  · rw [if_neg (by simpa using h), cmpL_zero]
    exact ⟨fun e => ⟨ordS_zero.1 h, e⟩, fun e => e.2⟩
  · rw [if_pos h]
    exact ⟨fun e => absurd e h, fun e => absurd (ordS_zero.2 e.1) h⟩
set_option maxRecDepth 100000 in
set_option maxHeartbeats 1000000 in
theorem rSame8_any (n m : ByteArray) (u v : Value) (x y : List Lab) (w : World) (hx : Labs w w.heap.size u x) (hy : Labs w w.heap.size v y) (nx : x.length ≤ 1000000) (ny : y.length ≤ 1000000) :
    Calls Tryz.prog 13 #[.agg #[.string n, u], .agg #[.string m, v]] w fun e w' => e = .returned (.bool (decide (n = m ∧ x = y))) ∧ Below w.heap.size w w' := by
  obtain ⟨A0, c0, rfl⟩ := hx.len
  obtain ⟨A1, c1, rfl⟩ := hy.len
  have hW : Below w.heap.size w ((w.alloc (.cells #[.string n, .slice A0 x.length c0] 32)).alloc (.cells #[.string m, .slice A1 y.length c1] 32)) := grew2 w _ _
  have aX := (At2.new w (.string n) (.slice A0 x.length c0) 32).alloc (.cells #[.string m, .slice A1 y.length c1] 32)
  have aY := At2.new (w.alloc (.cells #[.string n, .slice A0 x.length c0] 32)) (.string m) (.slice A1 y.length c1) 32
  have CC := Lib.hid (rCompare8_any n m _ _ x y _ ((hx.below hW).more hW.size) ((hy.below hW).more hW.size) nx ny)
  have hE : Hid (decide (n = m ∧ x = y) = (cmpI n m x y == 0)) := Lib.hid (by
    by_cases h : cmpI n m x y = 0
    · rw [decide_eq_true (cmpI_zero.1 h), h]; rfl
    · rw [decide_eq_false (fun e => h (cmpI_zero.2 e))]; exact (beq_eq_false_iff_ne.2 h).symm)
  rw [World.size_alloc] at aY
  obtain ⟨a0, a1, -, -⟩ := aX
  obtain ⟨b0, b1, -, -⟩ := aY
  clear hx hy nx ny
  go_enter Tryz.func13, Tryz.ntmps13
  go_wp2_with fail
  refine (CC.out).mono ?_; rintro e w1 ⟨rfl, h⟩
  have hB := hW.trans (h.mono hW.size)
  generalize cmpI n m x y = z at *
  go_wp2_with fail
  go_ret
  exact ⟨by rw [hE.out]; rfl, hB⟩
end Go.Proofs.YteiilmnehdbdiaaGreatDoor
