/- Package crc: after, written, Sum; walked. -/
import Derived.Test.YtckbkbfnddhpnaaCrcC
namespace Go.Proofs.Ytckbkbfnddhpnaa
open Go.RowKit

theorem and32_low (n : Nat) (h : n < 4294967296) : bits .and .u32 (n : Int) 1 = ((n % 2 : Nat) : Int) := by
  have h1 : (BitVec.ofInt 32 (n : Int)).toNat = n := by
    rw [BitVec.ofInt_natCast, BitVec.toNat_ofNat]; exact Nat.mod_eq_of_lt (by omega)
  have h2 : (BitVec.ofInt 32 (1 : Int)).toNat = 1 := by decide
  have h3 : ∀ n : Int, IntKind.u32.wrap n = n % 4294967296 := fun n => by simp [IntKind.wrap, IntKind.bits, IntKind.signed]
  show IntKind.u32.wrap ((BitVec.ofInt 32 (n : Int) &&& BitVec.ofInt 32 (1 : Int)).toNat : Int) = _
  rw [BitVec.toNat_and, h1, h2, h3, Nat.and_one_is_mod]
  omega

set_option maxRecDepth 100000 in
set_option maxHeartbeats 1000000 in
/-- The register after one more byte. -/
theorem after7_any (n b : Nat) (w : World) (hn : n < 4294967296) (hb : b < 256) :
    Calls Try.prog 20 #[.int .u32 n, .int .u8 b] w fun e w' => e = .returned (.int .u32 ((stepN 8 (n ^^^ b) : Nat) : Int)) ∧ w = w' := by
  have hx := xor32 n b hn (by omega)
  have hxl : n ^^^ b < 4294967296 := Nat.xor_lt_two_pow (n := 32) hn (by omega)
  generalize n ^^^ b = r0 at *
  go_enter Try.func20, Try.ntmps20
  go_wp2_with fail
  go_loop [0, 10] (fun s i => ∃ j r : Nat, j ≤ 8 ∧ i = .int .i64 j ∧ s = .int .u32 r ∧ r < 4294967296 ∧ Hid (stepN (8 - j) r = stepN 8 r0)) (fun _ i => 8 - (intOf i).toNat)
  case atStart => exact ⟨0, r0, by omega, rfl, rfl, hxl, Lib.hid rfl⟩
  case round =>
    clear hx hxl
    obtain ⟨j, r, hj, rfl, rfl, hr2, hst⟩ := hrel
    by_cases hj8 : j < 8
    · have j1 : (j : Int) < 8 := by omega
      have HS : Hid (stepN (8 - (j + 1)) (stepT r) = stepN 8 r0) := Lib.hid (by
        rw [← hst.out, show 8 - j = (8 - (j + 1)) + 1 by omega]; rfl)
      have hl : stepT r < 4294967296 := stepT_lt hr2
      have ha := and32_low r hr2
      clear hst
      by_cases ho : r % 2 = 1
      · have hT : Hid (stepT r = r / 2 ^^^ 3988292384) := Lib.hid (by unfold stepT; rw [if_pos ho])
        have hq : bits BinOp.xor IntKind.u32 ((r : Int) / 2) 3988292384 = ((r / 2 ^^^ 3988292384 : Nat) : Int) := xor32 (r / 2) 3988292384 (by omega) (by decide)
        rw [← hT.out] at hq
        rw [ho] at ha
        clear hT ho
        generalize stepT r = r1 at *
        go_wp2_with fail
        go_round
        case rel => exact ⟨j + 1, r1, hj8, by go_num, rfl, hl, HS⟩
        case measure => simp [intOf]; omega
      · have ho0 : r % 2 = 0 := by omega
        have hT : Hid (stepT r = r / 2 ^^^ 0) := Lib.hid (by unfold stepT; rw [if_neg ho])
        have hq : bits BinOp.xor IntKind.u32 ((r : Int) / 2) 0 = ((r / 2 ^^^ 0 : Nat) : Int) := xor32 (r / 2) 0 (by omega) (by decide)
        rw [← hT.out] at hq
        rw [ho0] at ha
        clear hT ho ho0
        generalize stepT r = r1 at *
        go_wp2_with fail
        go_round
        case rel => exact ⟨j + 1, r1, hj8, by go_num, rfl, hl, HS⟩
        case measure => simp [intOf]; omega
    · have HE : Hid (r = stepN 8 r0) := Lib.hid (by rw [← hst.out, show 8 - j = 0 by omega]; rfl)
      have j1 : ¬ (j : Int) < 8 := by omega
      clear hst
      go_wp2_with fail
      go_ret
      exact ⟨by rw [HE.out]; rfl, rfl⟩

set_option maxRecDepth 100000 in
set_option maxHeartbeats 1000000 in
theorem written7_any (s : Int) (w : World) (s0 : 0 ≤ s) (s1 : s < 4294967296) :
    Calls Try.prog 18 #[.int .u32 s] w (Copied 5 .u8 w (tailI s)) := by
  obtain ⟨i0, hi, hz0, hz1, hz2⟩ := info_parts byte_info7
  go_enter Try.func18, Try.ntmps18
  go_wp2_with fail
  go_loopw [3, 5] (fun o i wr => ∃ k : Nat, k ≤ 4 ∧ i = .int .i64 k ∧ Owned 5 .u8 wr w.heap.size o ((tailI s).take k) ∧ Below w.heap.size w wr) (fun _ i _ => 4 - (intOf i).toNat)
  case atStart => exact ⟨0, by omega, rfl, ⟨rfl, .inl ⟨rfl, rfl⟩⟩, Below.refl _ _⟩
  case round =>
    obtain ⟨k, hk, rfl, hown, hB⟩ := hrel
    have hsz := hB.size
    by_cases hlt : k < 4
    · have hzl : ((tailI s).take k).length = k := by rw [List.length_take, tailI_len]; omega
      obtain ⟨z, hz⟩ : ∃ z, z = (tailI s)[k]'(by rw [tailI_len]; omega) := ⟨_, rfl⟩
      have HZ : Hid ((tailI s).take (k + 1) = (tailI s).take k ++ [z]) := Lib.hid (by rw [hz]; exact List.take_succ_eq_append_getElem (by rw [tailI_len]; omega))
      have hv : s / 2 ^ (8 * k) % 256 = z := by
        rw [hz]
        unfold tailI
        rcases k with _ | _ | _ | _ | k
        · simp
        · rfl
        · rfl
        · show s / 16777216 % 256 = s / 16777216
          omega
        · omega
      have HPU := Lib.hid fun (u : Value) (W : World) (O : Obj) h1 h2 => by
        obtain ⟨hO, hb⟩ := Owned.push (w1 := W) (v' := u) (z := z) (o := O) hown hsz h1 h2
        rw [← HZ.out] at hO
        exact And.intro hO (hB.trans hb)
      have j1 : (k : Int) < 4 := by omega
      clear hz
      generalize (tailI s).take k = zs at *
      go_wp2_with (at_builtin; go_must (refine wpList_append_own _ rfl (.tmp 8) (.tmp 14) 23 rfl w.heap.size 5 i0 (.int .u8 0) 1 1 Try.underlying23 hi hz0 hz1 hz2 rfl (by decide) _ zs.length (zs.map (Value.int .u8)) rfl (World.ownsRow.alloc hown _) ⟨wr.heap.size, 0, none⟩ 1 1 [.int .u8 _] rfl rfl (one_val _ _ _) (fun u hu => by simp at hu; subst hu; rfl) (by unfold maxLen; omega) (by omega) (by simp; omega) ?_); intro v2 w2 hown2 hgrow2 _)
      obtain ⟨hO2, hB2⟩ := HPU.out _ _ _ hown2 hgrow2
      go_roundw
      case rel => exact ⟨k + 1, by omega, by go_num, hO2, hB2⟩
      case measure => simp [intOf]; omega
    · obtain rfl : k = 4 := by omega
      rw [List.take_of_length_le (by rw [tailI_len]; omega)] at hown
      have j1 : ¬ ((4 : Nat) : Int) < 4 := by decide
      go_wp2_with fail
      go_ret
      exact ⟨_, rfl, hown, hB⟩

theorem natL_app (a b : List Int) : natL (a ++ b) = natL a ++ natL b := List.map_append

set_option maxRecDepth 100000 in
set_option maxHeartbeats 1000000 in
theorem sum7_any (v : Value) (ps : List (List Int)) (w : World) (hl : LstL w w.heap.size v ps) (hb : AllByte ps) (hp : ps.length ≤ 1000000) (hz : ps.flatten.length ≤ 1000000) :
    Calls Try.prog 12 #[v] w fun e w' => e = .returned (.int .u32 (crcI ps.flatten)) ∧ w = w' := by
  obtain ⟨A, c, rfl⟩ := hl.len
  have HL := Lib.hid hl
  have HB := Lib.hid hb
  have HF := Lib.hid (flat_byte hb)
  clear hl hb
  go_enter Try.func12, Try.ntmps12
  go_wp2_with fail
  go_loop [3, 10] (fun s i => ∃ k n : Nat, k ≤ ps.length ∧ i = .int .i64 k ∧ s = .int .u32 n ∧ n < 4294967296 ∧ Hid (n = regN (natL (ps.take k).flatten) 4294967295)) (fun _ i => ps.length - (intOf i).toNat)
  case atStart => exact ⟨0, 4294967295, Nat.zero_le _, rfl, rfl, by decide, Lib.hid rfl⟩
  case round =>
    obtain ⟨k, n, hk, rfl, rfl, hn2, hs⟩ := hrel
    by_cases hlt : k < ps.length
    · obtain ⟨ad, u, rfl, hab, hcell, hu⟩ := HL.out.at_ hlt
      have HPB := Lib.hid (HB.out _ (List.getElem_mem hlt))
      have hpl : ps[k].length ≤ 1000000 := by
        have h1 := flat_le (ps := ps) (k + 1)
        rw [flat_next hlt, List.length_append] at h1
        omega
      have HN : Hid (∀ m : Nat, m = regN (natL ps[k]) n → m = regN (natL (ps.take (k + 1)).flatten) 4294967295) := Lib.hid fun m hm => by
        rw [flat_next hlt, natL_app, regN_app, hm, hs.out]
      obtain ⟨Au, cu, rfl, hcu, hru⟩ := hu
      have HR := Lib.hid hru
      have i0 : (0 : Int) ≤ (k : Int) := by omega
      have i1 : (k : Int) < (ps.length : Int) := by omega
      clear hru hab hs
      generalize ps[k] = p at *
      go_wp2_with fail
      go_loop [3, 16] (fun s i => ∃ j r : Nat, j ≤ p.length ∧ i = .int .i64 j ∧ s = .int .u32 r ∧ r < 4294967296 ∧ Hid (r = regN (natL (p.take j)) n)) (fun _ i => p.length - (intOf i).toNat)
      case atStart => exact ⟨0, n, by omega, rfl, rfl, hn2, Lib.hid rfl⟩
      case round =>
        obtain ⟨j, r, hj, rfl, rfl, hr2, hst⟩ := hrel
        by_cases hjl : j < p.length
        · obtain ⟨ad1, rfl, hblk, hcell1⟩ := HR.out (by omega)
          have lc := hcell1 j hjl
          have hz1 := HPB.out _ (List.getElem_mem hjl)
          have HS : Hid (∀ m : Nat, m = stepN 8 (r ^^^ p[j].toNat) → m = regN (natL (p.take (j + 1))) n) := Lib.hid fun m hm => by
            unfold natL
            rw [List.take_succ_eq_append_getElem hjl, List.map_append, regN_app, hm]
            unfold natL at hst
            rw [← hst.out]; rfl
          obtain ⟨b, hbz⟩ := Int.eq_ofNat_of_zero_le hz1.1
          rw [hbz] at lc HS hz1
          have CA := Lib.hid (after7_any r b w hr2 (by omega))
          have HE := Lib.hid (HS.out _ rfl)
          have hlt2 : stepN 8 (r ^^^ b) < 4294967296 := stepN_lt 8 _ (Nat.xor_lt_two_pow (n := 32) hr2 (by omega))
          have j0 : (0 : Int) ≤ (j : Int) := by omega
          have j1 : (j : Int) < (p.length : Int) := by omega
          clear hcell1 hblk hst HS hz1 hbz
          simp only [Int.toNat_natCast] at HE
          generalize stepN 8 (r ^^^ b) = r1 at *
          go_wp2_with fail
          refine (CA.out).mono ?_; rintro e w1 ⟨rfl, rfl⟩
          go_wp2_with fail
          go_round
          case rel => exact ⟨j + 1, r1, hjl, by go_num, rfl, hlt2, HE⟩
          case measure => simp [intOf]; omega
        · obtain rfl : j = p.length := by omega
          have HE := Lib.hid (HN.out r (by have h := hst.out; rw [List.take_length] at h; exact h))
          clear hst
          go_wp2_with fail
          go_round
          case rel => exact ⟨k + 1, r, hlt, by go_num, rfl, hr2, HE⟩
          case measure => simp [intOf]; omega
    · obtain rfl : k = ps.length := by omega
      rw [List.take_length] at hs
      have hx : bits BinOp.xor IntKind.u32 4294967295 (n : Int) = ((4294967295 ^^^ n : Nat) : Int) := xor32 4294967295 n (by decide) hn2
      have HE : Hid (((4294967295 ^^^ n : Nat) : Int) = crcI ps.flatten) := Lib.hid (by unfold crcI crcN; rw [hs.out])
      have hm : IntKind.u32.max = 4294967295 := rfl
      clear hs
      generalize 4294967295 ^^^ n = q at *
      go_wp2_with fail
      go_ret
      exact ⟨ret_one HE.out, rfl⟩
end Go.Proofs.Ytckbkbfnddhpnaa
