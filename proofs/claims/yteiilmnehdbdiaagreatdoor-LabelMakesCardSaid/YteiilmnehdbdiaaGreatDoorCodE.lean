/- Package code's lists of numbers and texts, written; walked. -/
import Derived.Test.YteiilmnehdbdiaaGreatDoorCodG
namespace Go.Proofs.YteiilmnehdbdiaaGreatDoor
open Go.RowKit

theorem uintsL_snoc {zs : List Int} {k : Nat} (h : k < zs.length) : uintsL (zs.take (k + 1)) = uintsL (zs.take k) ++ lebL zs[k].toNat := by
  unfold uintsL
  rw [List.take_succ_eq_append_getElem h, List.flatMap_append]; simp

theorem textsL_snoc {ss : List ByteArray} {k : Nat} (h : k < ss.length) : textsL (ss.take (k + 1)) = textsL (ss.take k) ++ txtL ss[k] := by
  unfold textsL
  rw [List.take_succ_eq_append_getElem h, List.flatMap_append]; simp

theorem flat_len {α : Type} (f : α → List Int) (c : Nat) : ∀ (l : List α), (∀ a ∈ l, (f a).length ≤ c) → (l.flatMap f).length ≤ c * l.length
  | [], _ => by simp
  | a :: t, h => by
    have h1 := h a (List.mem_cons_self ..)
    have h2 := flat_len f c t fun b hb => h b (List.mem_cons_of_mem _ hb)
    rw [List.flatMap_cons, List.length_append, List.length_cons, Nat.mul_succ]
    omega

set_option maxRecDepth 100000 in
set_option maxHeartbeats 1000000 in
theorem uints6_any (v : Value) (zs : List Int) (w : World) (hl : Lst w w.heap.size .u64 v zs) (hz : ∀ z ∈ zs, 0 ≤ z ∧ z < 18446744073709551616) (hn : zs.length ≤ 1000000) :
    Calls Tryz.prog 44 #[v] w (Copied 5 .u8 w (uintsL zs)) := by
  have HLN : Hid (∀ k, (uintsL (zs.take k)).length ≤ 10 * zs.length) := Lib.hid fun k => by
    refine Nat.le_trans (flat_len (fun z : Int => lebL z.toNat) 10 _ fun a ha => leb_ten ?_) (Nat.mul_le_mul_left 10 (by rw [List.length_take]; omega))
    have := hz a (List.mem_of_mem_take ha); omega
  obtain ⟨A, c, rfl, hc, hr⟩ := hl
  have HR := Lib.hid hr
  have HZ := Lib.hid hz
  clear hr hz
  go_enter Tryz.func44, Tryz.ntmps44
  go_wp2_with fail
  go_loopw [3, 8] (fun o i wr => ∃ k : Nat, k ≤ zs.length ∧ i = .int .i64 k ∧ Owned 5 .u8 wr w.heap.size o (uintsL (zs.take k)) ∧ Below w.heap.size w wr) (fun _ i _ => zs.length - (intOf i).toNat)
  case atStart => exact ⟨0, Nat.zero_le _, rfl, ⟨rfl, .inl ⟨rfl, rfl⟩⟩, Below.refl _ _⟩
  case round =>
    obtain ⟨k, hk, rfl, hown, hB⟩ := hrel
    by_cases hlt : k < zs.length
    · obtain ⟨ad, rfl, hblk, hcell⟩ := HR.out (by omega)
      have lc : wr.cell? (ad.add k) = some (.int .u64 zs[k]) := (hB.cell (by rw [block_of_add]; exact hblk)).trans (hcell k hlt)
      have hz := HZ.out _ (List.getElem_mem hlt)
      have CU := Lib.hid fun x hx => appU6_any zs[k].toNat w.heap.size x (uintsL (zs.take k)) wr (by omega) hx hB.size (by have := HLN.out k; omega)
      rw [Int.toNat_of_nonneg hz.1] at CU
      have HS := Lib.hid (uintsL_snoc hlt)
      have i0 : (0 : Int) ≤ (k : Int) := by omega
      have i1 : (k : Int) < (zs.length : Int) := by omega
      clear hcell hblk
      go_wp2_with fail
      refine (CU.out _ hown).mono ?_; rintro e w1 ⟨o, rfl, hO, hb⟩
      go_wp2_with fail
      go_roundw
      case rel => exact ⟨k + 1, hlt, by go_num, by rw [HS.out]; exact hO, hB.trans hb⟩
      case measure => simp [intOf]; omega
    · obtain rfl : k = zs.length := by omega
      rw [List.take_length] at hown
      go_wp2_with fail
      go_ret
      exact ⟨_, rfl, hown, hB⟩

set_option maxRecDepth 100000 in
set_option maxHeartbeats 1000000 in
theorem texts6_any (v : Value) (ss : List ByteArray) (w : World) (hl : LstS w w.heap.size v ss) (hz : ∀ s ∈ ss, s.size ≤ 1000000) (hn : ss.length ≤ 1000000) :
    Calls Tryz.prog 43 #[v] w (Copied 5 .u8 w (textsL ss)) := by
  obtain ⟨ib, hi, hz0, hz1, hz2⟩ := info_parts byte_info
  have HLN : Hid (∀ k, (textsL (ss.take k)).length ≤ 1000010 * ss.length) := Lib.hid fun k => by
    refine Nat.le_trans (flat_len txtL 1000010 _ fun a ha => ?_) (Nat.mul_le_mul_left 1000010 (by rw [List.length_take]; omega))
    have h1 := hz a (List.mem_of_mem_take ha)
    have h2 := leb_ten (n := a.size) (by omega)
    unfold txtL
    rw [List.length_append, strB_len]
    omega
  obtain ⟨A, c, rfl, hc, hr⟩ := hl
  have HR := Lib.hid hr
  have HZ := Lib.hid hz
  clear hr hz
  go_enter Tryz.func43, Tryz.ntmps43
  go_wp2_with fail
  go_loopw [3, 8] (fun o i wr => ∃ k : Nat, k ≤ ss.length ∧ i = .int .i64 k ∧ Owned 5 .u8 wr w.heap.size o (textsL (ss.take k)) ∧ Below w.heap.size w wr) (fun _ i _ => ss.length - (intOf i).toNat)
  case atStart => exact ⟨0, Nat.zero_le _, rfl, ⟨rfl, .inl ⟨rfl, rfl⟩⟩, Below.refl _ _⟩
  case round =>
    obtain ⟨k, hk, rfl, hown, hB⟩ := hrel
    by_cases hlt : k < ss.length
    · obtain ⟨ad, rfl, hblk, hcell⟩ := HR.out (by omega)
      have lc : wr.cell? (ad.add k) = some (.string ss[k]) := (hB.cell (by rw [block_of_add]; exact hblk)).trans (hcell k hlt)
      have hz := HZ.out _ (List.getElem_mem hlt)
      have CU := Lib.hid fun x hx => appU6_any ss[k].size w.heap.size x (textsL (ss.take k)) wr (by omega) hx hB.size (by have := HLN.out k; omega)
      have HS := Lib.hid (textsL_snoc hlt)
      have hll : (textsL (ss.take k) ++ lebL ss[k].size).length ≤ 1000010 * ss.length + 10 := by
        have h1 := HLN.out k
        have h2 := leb_ten (n := ss[k].size) (by omega)
        rw [List.length_append]; omega
      have i0 : (0 : Int) ≤ (k : Int) := by omega
      have i1 : (k : Int) < (ss.length : Int) := by omega
      clear hcell hblk
      generalize ss[k] = s at *
      have HT : Hid (textsL (ss.take (k + 1)) = (textsL (ss.take k) ++ lebL s.size) ++ strB s) := Lib.hid (by rw [HS.out]; unfold txtL; rw [List.append_assoc])
      clear HS
      go_wp2_with fail
      refine (CU.out _ hown).mono ?_; rintro e w1 ⟨o, rfl, hO, hb⟩
      generalize textsL (ss.take k) ++ lebL s.size = ys at *
      go_wp2_with (at_builtin; go_must (refine Lib.wpList_append_own_string _ rfl (.tmp 17) (.tmp 18) 41 9 rfl w.heap.size 5 ib Tryz.underlying41 Tryz.underlying9 hi hz0 hz1 hz2 _ _ _ rfl hO s rfl (by unfold maxLen; omega) (by omega) (hB.trans hb).size ?_); intro v2 w2 hown2 hgrow2 _)
      rw [strB_cells] at hown2
      obtain ⟨hO2, hB2⟩ := hO.join (ys := strB s) (hB.trans hb).size (by rw [strB_len]; exact hown2) hgrow2
      go_roundw
      case rel => exact ⟨k + 1, hlt, by go_num, by rw [HT.out]; exact hO2, (hB.trans hb).trans hB2⟩
      case measure => simp [intOf]; omega
    · obtain rfl : k = ss.length := by omega
      rw [List.take_length] at hown
      go_wp2_with fail
      go_ret
      exact ⟨_, rfl, hown, hB⟩
end Go.Proofs.YteiilmnehdbdiaaGreatDoor
