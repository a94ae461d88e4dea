/- The document's bytes of numbers and texts, walked. -/
import Derived.Test.YteiilmnehdbdiaaGreatDoorRows
import Derived.Test.YteiilmnehdbdiaaGreatDoorOwn
import Derived.Test.YteiilmnehdbdiaaGreatDoorLeb
import Derived.WalkSpells
import Derived.WalkLawsBesides
import Derived.IntWalk
namespace Go.Proofs.YteiilmnehdbdiaaGreatDoor
open Go.RowKit

set_option maxRecDepth 100000 in
theorem byte_info : (Tryz.prog.info? 5).map (fun i => (i.zero, i.size, i.bytes)) = some (some (.int .u8 0), 1, 1) := by kernel_rfl

set_option maxRecDepth 100000 in
set_option maxHeartbeats 1000000 in
theorem rUint_any (n : Nat) (w : World) (hn : n < 18446744073709551616) : Calls Tryz.prog 46 #[.int .u64 n] w (Copied 5 .u8 w (lebL n)) := by
  obtain ⟨i0, hi, hz0, hz1, hz2⟩ := info_parts byte_info
  have HL := Lib.hid (leb_ten hn)
  have hO : Owned 5 .u8 (w.alloc (.cells #[] 5)) w.heap.size (.slice (some ⟨w.heap.size, 0, none⟩) 0 0) [] := owned_empty _ w _ (Nat.le_refl _)
  have hB := below_new w (.cells #[] 5)
  go_enter Tryz.func46, Tryz.ntmps46
  go_wp2_with fail
  generalize w.alloc (.cells #[] 5) = W at *
  go_loopw [0, 3] (fun v o wr => ∃ (m : Nat) (xs : List Int), v = .int .u64 m ∧ m < 18446744073709551616 ∧ Owned 5 .u8 wr w.heap.size o xs ∧ Hid (xs ++ lebL m = lebL n) ∧ Below w.heap.size w wr) (fun v _ _ => (intOf v).toNat)
  case atStart => exact ⟨n, [], rfl, hn, hO, Lib.hid rfl, hB⟩
  case round =>
    clear hO hB
    obtain ⟨m, xs, rfl, hm, hown, he, hB⟩ := hrel
    have hlen : xs.length ≤ 10 := by have h := HL.out; rw [← he.out, List.length_append] at h; omega
    have hsz := hB.size
    by_cases h : 128 ≤ m
    · have HX : Hid ((xs ++ [((128 + m % 128 : Nat) : Int)]) ++ lebL (m / 128) = lebL n) := Lib.hid (by rw [← he.out, leb_ge h, List.append_assoc]; rfl)
      have h1 : (128 : Int) ≤ (m : Int) := by omega
      have HZ : Hid (∀ z : Int, z = ((128 + m % 128 : Nat) : Int) → Value.int .u8 z = .int .u8 ((128 + m % 128 : Nat) : Int)) := Lib.hid fun z h => by rw [h]
      clear he
      go_wp2_with (at_builtin; go_must (refine wpList_append_own _ rfl (.tmp 7) (.tmp 12) 41 rfl w.heap.size 5 i0 (.int .u8 0) 1 1 Tryz.underlying41 hi hz0 hz1 hz2 rfl (by decide) _ xs.length (xs.map (Value.int .u8)) rfl (World.ownsRow.alloc hown _) ⟨wr.heap.size, 0, none⟩ 1 1 [.int .u8 _] rfl rfl (one_val _ _ _) (fun u hu => by simp at hu; subst hu; rfl) (by unfold maxLen; omega) (by omega) (by simp; omega) ?_); intro v2 w2 hown2 hgrow2 _)
      obtain ⟨hO2, hB2⟩ := hown.push (z := 128 + (m : Int) % 128) hsz hown2 hgrow2
      go_roundw
      case rel => exact ⟨m / 128, xs ++ [128 + (m : Int) % 128], by go_num, by omega, hO2, HX, hB.trans (hB2.mono (Nat.le_refl _))⟩
      case measure => simp [intOf]; omega
    · have HX : Hid (xs ++ [(m : Int)] = lebL n) := Lib.hid (by rw [← he.out, leb_lt (by omega)])
      have h1 : (m : Int) < 128 := by omega
      clear he
      go_wp2_with (at_builtin; go_must (refine wpList_append_own _ rfl (.tmp 16) (.tmp 19) 41 rfl w.heap.size 5 i0 (.int .u8 0) 1 1 Tryz.underlying41 hi hz0 hz1 hz2 rfl (by decide) _ xs.length (xs.map (Value.int .u8)) rfl (World.ownsRow.alloc hown _) ⟨wr.heap.size, 0, none⟩ 1 1 [.int .u8 _] rfl rfl (one_val _ _ _) (fun u hu => by simp at hu; subst hu; rfl) (by unfold maxLen; omega) (by omega) (by simp; omega) ?_); intro v2 w2 hown2 hgrow2 _)
      obtain ⟨hO2, hB2⟩ := hown.push (z := (m : Int)) hsz hown2 hgrow2
      rw [HX.out] at hO2
      go_ret
      exact ⟨_, rfl, hO2, hB.trans hB2⟩

set_option maxRecDepth 100000 in
set_option maxHeartbeats 1000000 in
theorem rText_any (s : ByteArray) (w : World) (hn : s.size ≤ 1000000) : Calls Tryz.prog 45 #[.string s] w (Copied 5 .u8 w (txtL s)) := by
  obtain ⟨i0, hi, hz0, hz1, hz2⟩ := info_parts byte_info
  have CU := Lib.hid fun W => rUint_any s.size W (by omega)
  have HL := leb_ten (n := s.size) (by omega)
  go_enter Tryz.func45, Tryz.ntmps45
  go_wp2_with fail
  refine (CU.out _).mono ?_; rintro e w1 ⟨x, rfl, hO, hB⟩
  go_wp2_with (at_builtin; go_must (refine Lib.wpList_append_own_string _ rfl (.tmp 6) (.tmp 7) 41 9 rfl w.heap.size 5 i0 Tryz.underlying41 Tryz.underlying9 hi hz0 hz1 hz2 _ _ _ rfl hO s rfl (by unfold maxLen; omega) (by omega) hB.size ?_); intro v2 w2 hown2 hgrow2 _)
  rw [strB_cells] at hown2
  obtain ⟨hO2, hB2⟩ := hO.join (ys := strB s) hB.size (by rw [strB_len]; exact hown2) hgrow2
  go_ret
  exact ⟨_, rfl, hO2, hB.trans hB2⟩
end Go.Proofs.YteiilmnehdbdiaaGreatDoor
