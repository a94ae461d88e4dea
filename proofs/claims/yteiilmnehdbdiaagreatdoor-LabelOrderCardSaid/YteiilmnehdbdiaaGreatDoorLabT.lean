/- noonmarkref08's Text, walked. -/
import Derived.Test.YteiilmnehdbdiaaGreatDoorLabR
namespace Go.Proofs.YteiilmnehdbdiaaGreatDoor
open Go.RowKit

theorem preS_next {n : ByteArray} {x : List Lab} {k : Nat} (h : k < x.length) : preS n x (k + 1) = preS n x k ++ ((if k = 0 then oneS 123 else oneS 44) ++ x[k].1 ++ oneS 61 ++ x[k].2) := by
  rw [preS, pieceS, List.getD_eq_getElem?_getD, List.getElem?_eq_getElem h]
  rfl

theorem preS_size {n : ByteArray} {x : List Lab} (h : IsRight n x) : ∀ k, k ≤ x.length → (preS n x k).size ≤ 64 + 130 * k
  | 0, _ => h.1.2.1
  | k + 1, hk => by
    have ih := preS_size h k (by omega)
    have hl := h.2.2.1 _ (List.getElem_mem (show k < x.length by omega))
    have h1 := hl.1.2.1
    have h2 := hl.2.1
    rw [preS_next (by omega)]
    have e : ∀ c, (oneS c).size = 1 := fun _ => rfl
    rw [ByteArray.size_append, ByteArray.size_append, ByteArray.size_append, ByteArray.size_append, e]
    split <;> rw [e] <;> omega

set_option maxRecDepth 100000 in
set_option maxHeartbeats 4000000 in
theorem rText8_any (n : ByteArray) (u : Value) (x : List Lab) (w : World) (hx : Labs w w.heap.size u x) (hn : n.size ≤ 1000000) (hz : ∀ l ∈ x, l.1.size ≤ 1000000 ∧ l.2.size ≤ 1000000) :
    Calls Tryz.prog 17 #[.agg #[.string n, u]] w fun e w' => e = .returned (.string (textS n x)) ∧ Below w.heap.size w w' := by
  obtain ⟨A0, c0, rfl⟩ := hx.len
  have hW : Below w.heap.size w (w.alloc (.cells #[.string n, .slice A0 x.length c0] 32)) := grew1 w _
  have aS := At2.new w (.string n) (.slice A0 x.length c0) 32
  have LX := Lib.hid (hx.below hW)
  have CR := Lib.hid (rRight8_any n _ x _ ((hx.below hW).more hW.size) hn hz)
  clear hx hz
  obtain ⟨a0, a1, -, -⟩ := id aS
  by_cases hr : IsRight n x
  case neg =>
    have hE : Hid (textS n x = ByteArray.empty) := Lib.hid (if_neg hr)
    rw [decide_eq_false hr] at CR
    clear hr
    go_enter Tryz.func17, Tryz.ntmps17
    go_wp2_with fail
    refine (CR.out).mono ?_; rintro e w1 ⟨rfl, h⟩
    have hB := hW.trans (h.mono hW.size)
    go_wp2_with fail
    go_ret
    exact ⟨by rw [hE.out]; rfl, hB⟩
  have hE : Hid (textS n x = fullS n x) := Lib.hid (if_pos hr)
  have hx8 : x.length ≤ 8 := hr.2.1
  have HS := Lib.hid (preS_size hr)
  have HLS : Hid (∀ l ∈ x, l.1.size ≤ 64 ∧ l.2.size ≤ 64) := Lib.hid fun l hl => ⟨(hr.2.2.1 l hl).1.2.1, (hr.2.2.1 l hl).2.1⟩
  rw [decide_eq_true hr] at CR
  clear hr
  go_enter Tryz.func17, Tryz.ntmps17
  go_wp2_with fail
  refine (CR.out).mono ?_; rintro e w1 ⟨rfl, h⟩
  have hB := hW.trans (h.mono hW.size)
  have aS := aS.below h
  have LX := Lib.hid (LX.out.below (h.mono hW.size))
  clear h a0 a1
  obtain ⟨a0, a1, -, -⟩ := id aS
  go_wp2_with fail
  go_loopw [3, 4] (fun o i wr => ∃ k : Nat, (∃ d, w1.drewN d = wr) ∧ k ≤ x.length ∧ i = .int .i64 k ∧ o = .string (preS n x k)) (fun _ i _ => x.length - (intOf i).toNat)
  case atStart => exact ⟨0, ⟨0, rfl⟩, Nat.zero_le _, rfl, rfl⟩
  case round =>
    obtain ⟨k, ⟨d, rfl⟩, hk, rfl, rfl⟩ := hrel
    by_cases hlt : k < x.length
    · obtain ⟨ax, rfl, hbx, hcx⟩ := LX.out.at_ (by omega)
      obtain ⟨x0, x1⟩ := hcx k hlt
      rw [add_next] at x1
      have j0 : (0 : Int) ≤ (k : Int) := by omega
      have j1 : (k : Int) < (x.length : Int) := by omega
      have HP := Lib.hid (preS_next (n := n) hlt)
      have hq := HS.out k hk
      obtain ⟨hp0, hp1⟩ := HLS.out _ (List.getElem_mem hlt)
      clear hcx
      generalize x[k].1 = p0 at *
      generalize x[k].2 = p1 at *
      generalize preS n x k = q at *
      have s1 : ¬ 9223372036854775807 < 1 + p0.size := by omega
      have s2 : ¬ 9223372036854775807 < 1 + p0.size + 1 := by omega
      have s3 : ¬ 9223372036854775807 < 1 + p0.size + 1 + p1.size := by omega
      have s4 : ¬ 9223372036854775807 < q.size + (1 + p0.size + 1 + p1.size) := by omega
      by_cases h0 : k = 0
      · have h00 : ((k : Int) == 0) = true := by simp [h0]
        rw [if_pos h0] at HP
        clear h0
        go_wp2_with fail
        go_quiet (fail)
        go_wp2_with fail
        go_roundw
        case rel => exact ⟨k + 1, ⟨_, by first | rfl | (simp; rfl)⟩, hlt, by go_num, by rw [HP.out]; rfl⟩
        case measure => simp [intOf]; omega
      · have h00 : ((k : Int) == 0) = false := by simp [h0]
        rw [if_neg h0] at HP
        clear h0
        go_wp2_with fail
        go_quiet (fail)
        go_wp2_with fail
        go_roundw
        case rel => exact ⟨k + 1, ⟨_, by first | rfl | (simp; rfl)⟩, hlt, by go_num, by rw [HP.out]; rfl⟩
        case measure => simp [intOf]; omega
    · obtain rfl : k = x.length := by omega
      by_cases h0 : x = []
      · have hF : Hid (fullS n x = n) := Lib.hid (if_pos h0)
        subst h0
        go_wp2_with fail
        go_ret
        exact ⟨by rw [hE.out, hF.out]; rfl, below_drewN hB _⟩
      · have hF : Hid (fullS n x = preS n x x.length ++ oneS 125) := Lib.hid (if_neg h0)
        have i1 : (0 : Int) < (x.length : Int) := by
          have : x.length ≠ 0 := fun e => h0 (List.eq_nil_of_length_eq_zero e)
          omega
        have hq := HS.out x.length (Nat.le_refl _)
        generalize preS n x x.length = q at *
        have s5 : ¬ 9223372036854775807 < q.size + 1 := by omega
        clear h0
        go_wp2_with fail
        go_ret
        exact ⟨by rw [hE.out, hF.out]; rfl, below_drewN hB _⟩
end Go.Proofs.YteiilmnehdbdiaaGreatDoor
