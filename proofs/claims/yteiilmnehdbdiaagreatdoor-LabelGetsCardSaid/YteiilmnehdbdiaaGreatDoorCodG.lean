/- Package code's appendUint, walked. -/
import Derived.Test.YteiilmnehdbdiaaGreatDoorCodW
import Derived.Test.YteiilmnehdbdiaaGreatDoorBit7
namespace Go.Proofs.YteiilmnehdbdiaaGreatDoor
open Go.RowKit

set_option maxRecDepth 100000 in
set_option maxHeartbeats 1000000 in
/-- A number's bytes, appended to a row of the call's own. -/
theorem appU6_any (n base : Nat) (v : Value) (xs : List Int) (w : World) (hn : n < 18446744073709551616) (hO : Owned 5 .u8 w base v xs) (hbs : base ≤ w.heap.size) (hxs : xs.length ≤ 10000000000000) :
    Calls Tryz.prog 67 #[v, .int .u64 n] w fun e w' => ∃ v', e = .returned v' ∧ Owned 5 .u8 w' base v' (xs ++ lebL n) ∧ Below base w w' := by
  obtain ⟨i0, hi, hz0, hz1, hz2⟩ := info_parts byte_info
  have HL := Lib.hid (leb_ten hn)
  go_enter Tryz.func67, Tryz.ntmps67
  go_wp2_with fail
  go_loopw [0, 1] (fun o v wr => ∃ (m : Nat) (ys : List Int), v = .int .u64 m ∧ m < 18446744073709551616 ∧ Owned 5 .u8 wr base o (xs ++ ys) ∧ Hid (ys ++ lebL m = lebL n) ∧ Below base w wr) (fun _ v _ => (intOf v).toNat)
  case atStart => exact ⟨n, [], rfl, hn, by rw [List.append_nil]; exact hO, Lib.hid rfl, Below.refl _ _⟩
  case round =>
    clear hO
    obtain ⟨m, ys, rfl, hm, hown, he, hB⟩ := hrel
    have hlen : ys.length ≤ 10 := by have h := HL.out; rw [← he.out, List.length_append] at h; omega
    have hsz := Nat.le_trans hbs hB.size
    have hll : (xs ++ ys).length ≤ 10000000000010 := by rw [List.length_append]; omega
    have HXY : Hid (xs ++ (ys ++ lebL m) = xs ++ lebL n) := Lib.hid (by rw [he.out])
    generalize hzs : xs ++ ys = zs at *
    have HZS := Lib.hid hzs
    clear hzs
    by_cases h : 128 ≤ m
    · have HX : Hid ((ys ++ [((128 + m % 128 : Nat) : Int)]) ++ lebL (m / 128) = lebL n) := Lib.hid (by rw [← he.out, leb_ge h, List.append_assoc]; rfl)
      have h1 : (128 : Int) ≤ (m : Int) := by omega
      have hor := or8_mark ((m : Int) % 256) (by omega) (by omega)
      have h7 : (m : Int) % 256 % 128 = (m : Int) % 128 := by omega
      rw [h7] at hor
      clear he h7
      go_wp2_with (at_builtin; go_must (refine wpList_append_own _ rfl (.tmp 7) (.tmp 11) 41 rfl base 5 i0 (.int .u8 0) 1 1 Tryz.underlying41 hi hz0 hz1 hz2 rfl (by decide) _ zs.length (zs.map (Value.int .u8)) rfl (World.ownsRow.alloc hown _) ⟨wr.heap.size, 0, none⟩ 1 1 [.int .u8 _] rfl rfl (one_val _ _ _) (fun u hu => by simp at hu; subst hu; rfl) (by unfold maxLen; omega) (by omega) (by simp; omega) ?_); intro v2 w2 hown2 hgrow2 _)
      obtain ⟨hO2, hB2⟩ := hown.push (z := 128 + (m : Int) % 128) hsz hown2 hgrow2
      go_roundw
      case rel => exact ⟨m / 128, ys ++ [128 + (m : Int) % 128], by go_num, by omega, by rw [← List.append_assoc, HZS.out]; exact hO2, HX, hB.trans hB2⟩
      case measure => simp [intOf]; omega
    · have HX : Hid (zs ++ [(m : Int)] = xs ++ lebL n) := Lib.hid (by rw [← HXY.out, leb_lt (by omega), ← List.append_assoc, HZS.out])
      have h1 : (m : Int) < 128 := by omega
      clear he
      go_wp2_with (at_builtin; go_must (refine wpList_append_own _ rfl (.tmp 15) (.tmp 18) 41 rfl base 5 i0 (.int .u8 0) 1 1 Tryz.underlying41 hi hz0 hz1 hz2 rfl (by decide) _ zs.length (zs.map (Value.int .u8)) rfl (World.ownsRow.alloc hown _) ⟨wr.heap.size, 0, none⟩ 1 1 [.int .u8 _] rfl rfl (one_val _ _ _) (fun u hu => by simp at hu; subst hu; rfl) (by unfold maxLen; omega) (by omega) (by simp; omega) ?_); intro v2 w2 hown2 hgrow2 _)
      obtain ⟨hO2, hB2⟩ := hown.push (z := (m : Int)) hsz hown2 hgrow2
      rw [HX.out] at hO2
      go_ret
      exact ⟨_, rfl, hO2, hB.trans hB2⟩
end Go.Proofs.YteiilmnehdbdiaaGreatDoor
