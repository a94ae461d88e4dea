/- The document's checksum of bytes, walked; bytes sealed and opened. -/
import Derived.Test.YtckbkbfnddhpnaaRows
import Derived.Test.YtckbkbfnddhpnaaOwn
import Derived.Test.YtckbkbfnddhpnaaCrcN
import Derived.WalkSpells
import Derived.WalkLawsBesides
import Derived.IntWalk
import Derived.Deep.CutBlock
import Derived.Deep.DeepCutAuto
import Derived.Deep.RegionHeld3
namespace Go.Proofs.Ytckbkbfnddhpnaa
open Go.RowKit

def IsByte (bs : List Int) : Prop := ∀ c ∈ bs, 0 ≤ c ∧ c ≤ 255
def natL (zs : List Int) : List Nat := zs.map Int.toNat
theorem natL_byte {zs : List Int} (h : IsByte zs) : ∀ b ∈ natL zs, b < 256 := fun b hb => by
  obtain ⟨z, hz, rfl⟩ := List.mem_map.1 hb
  have := h z hz
  omega
/-- The checksum of bytes. -/
def crcI (zs : List Int) : Int := ((crcN (natL zs) : Nat) : Int)

theorem xor32 (a b : Nat) (ha : a < 4294967296) (hb : b < 4294967296) : bits .xor .u32 (a : Int) (b : Int) = ((a ^^^ b : Nat) : Int) := by
  have hx : a ^^^ b < 2 ^ 32 := Nat.xor_lt_two_pow (by omega) (by omega)
  have h1 : (BitVec.ofInt 32 (a : Int)).toNat = a := by
    rw [BitVec.ofInt_natCast, BitVec.toNat_ofNat]; exact Nat.mod_eq_of_lt (by omega)
  have h2 : (BitVec.ofInt 32 (b : Int)).toNat = b := by
    rw [BitVec.ofInt_natCast, BitVec.toNat_ofNat]; exact Nat.mod_eq_of_lt (by omega)
  have h3 : ∀ n : Int, IntKind.u32.wrap n = n % 4294967296 := fun n => by simp [IntKind.wrap, IntKind.bits, IntKind.signed]
  show IntKind.u32.wrap ((BitVec.ofInt 32 (a : Int) ^^^ BitVec.ofInt 32 (b : Int)).toNat : Int) = _
  rw [BitVec.toNat_xor, h1, h2, h3]
  omega
theorem xor8 (a b : Nat) (ha : a < 256) (hb : b < 256) : bits .xor .u8 (a : Int) (b : Int) = ((a ^^^ b : Nat) : Int) := by
  have hx : a ^^^ b < 2 ^ 8 := Nat.xor_lt_two_pow (by omega) (by omega)
  have h1 : (BitVec.ofInt 8 (a : Int)).toNat = a := by
    rw [BitVec.ofInt_natCast, BitVec.toNat_ofNat]; exact Nat.mod_eq_of_lt (by omega)
  have h2 : (BitVec.ofInt 8 (b : Int)).toNat = b := by
    rw [BitVec.ofInt_natCast, BitVec.toNat_ofNat]; exact Nat.mod_eq_of_lt (by omega)
  have h3 : ∀ n : Int, IntKind.u8.wrap n = n % 256 := fun n => by simp [IntKind.wrap, IntKind.bits, IntKind.signed]
  show IntKind.u8.wrap ((BitVec.ofInt 8 (a : Int) ^^^ BitVec.ofInt 8 (b : Int)).toNat : Int) = _
  rw [BitVec.toNat_xor, h1, h2, h3]
  omega

set_option maxRecDepth 100000 in
set_option maxHeartbeats 2000000 in
theorem rCrcSum_any (v : Value) (zs : List Int) (w : World) (hl : Lst w w.heap.size .u8 v zs) (hb : IsByte zs) (hn : zs.length ≤ 1000000) :
    Calls Try.prog 13 #[v] w fun e w' => e = .returned (.int .u32 (crcI zs)) ∧ w = w' := by
  obtain ⟨A, c, rfl, hc, hr⟩ := hl
  have HR := Lib.hid hr
  have HB := Lib.hid hb
  clear hr hb
  go_enter Try.func13, Try.ntmps13
  go_wp2_with fail
  go_loop [3, 4] (fun s i => ∃ k n : Nat, k ≤ zs.length ∧ i = .int .i64 k ∧ s = .int .u32 n ∧ n < 4294967296 ∧ Hid (n = regN (natL (zs.take k)) 4294967295)) (fun _ i => zs.length - (intOf i).toNat)
  case atStart => exact ⟨0, 4294967295, Nat.zero_le _, rfl, rfl, by decide, Lib.hid rfl⟩
  case round =>
    obtain ⟨k, n, hk, rfl, rfl, hn2, hs⟩ := hrel
    by_cases hlt : k < zs.length
    · obtain ⟨ad, rfl, hblk, hcell⟩ := HR.out (by omega)
      have lc := hcell k hlt
      have hz := HB.out _ (List.getElem_mem hlt)
      have HN : Hid (∀ m : Nat, m = stepN 8 (n ^^^ zs[k].toNat) → m = regN (natL (zs.take (k + 1))) 4294967295) := Lib.hid fun m hm => by
        unfold natL
        rw [List.take_succ_eq_append_getElem hlt, List.map_append, regN_app, hm]
        unfold natL at hs
        rw [← hs.out]; rfl
      obtain ⟨b, hbz⟩ := Int.eq_ofNat_of_zero_le hz.1
      rw [hbz] at lc HN hz
      clear hcell hblk hs
      have i0 : (0 : Int) ≤ (k : Int) := by omega
      have i1 : (k : Int) < (zs.length : Int) := by omega
      have hb8 : b < 256 := by omega
      have hx := xor32 n b hn2 (by omega)
      have hxl : n ^^^ b < 4294967296 := Nat.xor_lt_two_pow (n := 32) hn2 (by omega)
      have HN2 : Hid (∀ m : Nat, m = stepN 8 (n ^^^ b) → m = regN (natL (zs.take (k + 1))) 4294967295) := Lib.hid fun m hm => HN.out m hm
      clear HN
      generalize n ^^^ b = r0 at *
      go_wp2_with fail
      go_loop [3, 5] (fun s i => ∃ j r : Nat, j ≤ 8 ∧ i = .int .i64 j ∧ s = .int .u32 r ∧ r < 4294967296 ∧ Hid (stepN (8 - j) r = stepN 8 r0)) (fun _ i => 8 - (intOf i).toNat)
      case atStart => exact ⟨0, r0, by omega, rfl, rfl, hxl, Lib.hid rfl⟩
      case round =>
        clear hx hxl
        obtain ⟨j, r, hj, rfl, rfl, hr2, hst⟩ := hrel
        by_cases hj8 : j < 8
        · have j1 : (j : Int) < 8 := by omega
          have HS : Hid (stepN (8 - (j + 1)) (stepT r) = stepN 8 r0) := Lib.hid (by
            rw [← hst.out, show 8 - j = (8 - (j + 1)) + 1 by omega]; rfl)
          clear hst
          by_cases ho : r % 2 = 1
          · have o1 : ((r : Int) % 2 == 1) = true := by simp; omega
            have hT : Hid (stepT r = r / 2 ^^^ 3988292384) := Lib.hid (by unfold stepT; rw [if_pos ho])
            have hl : stepT r < 4294967296 := stepT_lt hr2
            have hq : bits BinOp.xor IntKind.u32 ((r : Int) / 2) 3988292384 = ((r / 2 ^^^ 3988292384 : Nat) : Int) := xor32 (r / 2) 3988292384 (by omega) (by decide)
            rw [← hT.out] at hq
            clear hT ho
            generalize stepT r = r1 at *
            go_wp2_with fail
            go_round
            case rel => exact ⟨j + 1, r1, hj8, by go_num, rfl, hl, HS⟩
            case measure => simp [intOf]; omega
          · have o1 : ((r : Int) % 2 == 1) = false := by simp; omega
            have hT : Hid (stepT r = r / 2) := Lib.hid (by unfold stepT; rw [if_neg ho, Nat.xor_zero])
            have hl : stepT r < 4294967296 := stepT_lt hr2
            clear ho
            go_wp2_with fail
            go_round
            case rel => exact ⟨j + 1, stepT r, hj8, by go_num, by rw [hT.out]; rfl, hl, HS⟩
            case measure => simp [intOf]; omega
        · obtain rfl : j = 8 := by omega
          have HE := Lib.hid (HN2.out r hst.out)
          clear hst
          go_wp2_with fail
          go_round
          case rel => exact ⟨k + 1, r, hlt, by go_num, rfl, hr2, HE⟩
          case measure => simp [intOf]; omega
    · obtain rfl : k = zs.length := by omega
      rw [List.take_length] at hs
      have hx : bits BinOp.xor IntKind.u32 4294967295 (n : Int) = ((4294967295 ^^^ n : Nat) : Int) := xor32 4294967295 n (by decide) hn2
      have HE : Hid (((4294967295 ^^^ n : Nat) : Int) = crcI zs) := Lib.hid (by unfold crcI crcN; rw [hs.out])
      have hm : IntKind.u32.max = 4294967295 := rfl
      clear hs
      generalize 4294967295 ^^^ n = q at *
      go_wp2_with fail
      go_ret
      exact ⟨ret_one HE.out, rfl⟩

theorem crcI_bd {zs : List Int} (h : IsByte zs) : 0 ≤ crcI zs ∧ crcI zs < 4294967296 := by
  have := crcN_lt (natL_byte h)
  unfold crcI; omega
/-- A sum's four bytes; bytes, sealed; sealed bytes, opened. -/
def tailI (s : Int) : List Int := [s % 256, s / 256 % 256, s / 65536 % 256, s / 16777216]
theorem tailI_len (s : Int) : (tailI s).length = 4 := rfl
theorem tailI_byte {s : Int} (h0 : 0 ≤ s) (h1 : s < 4294967296) : IsByte (tailI s) := fun c hc => by
  unfold tailI at hc
  simp only [List.mem_cons, List.not_mem_nil, or_false] at hc
  rcases hc with rfl | rfl | rfl | rfl <;> omega
theorem tailI_inj {s t : Int} (h0 : 0 ≤ s) (h1 : s < 4294967296) (k0 : 0 ≤ t) (k1 : t < 4294967296) (h : tailI s = tailI t) : s = t := by
  unfold tailI at h
  injection h with e1 h
  injection h with e2 h
  injection h with e3 h
  injection h with e4 _
  omega
def sealI (bs : List Int) : List Int := bs ++ tailI (crcI bs)
theorem sealI_len (bs : List Int) : (sealI bs).length = bs.length + 4 := by unfold sealI; rw [List.length_append, tailI_len]
theorem sealI_byte {bs : List Int} (h : IsByte bs) : IsByte (sealI bs) := fun c hc => by
  rcases List.mem_append.1 hc with k | k
  · exact h c k
  · exact tailI_byte (crcI_bd h).1 (crcI_bd h).2 c k
def openI (bs : List Int) : List Int × Int := if bs.length < 4 then ([], 15) else if bs = sealI (bs.take (bs.length - 4)) then (bs.take (bs.length - 4), 0) else ([], 14)
theorem openI_seal (bs : List Int) : openI (sealI bs) = (bs, 0) := by
  have hl := sealI_len bs
  have ht : (sealI bs).take ((sealI bs).length - 4) = bs := by
    rw [hl, Nat.add_sub_cancel]; unfold sealI; exact List.take_left
  unfold openI
  rw [if_neg (by omega), ht, if_pos rfl]
theorem byte_info7 : (Try.prog.info? 5).map (fun i => (i.zero, i.size, i.bytes)) = some (some (.int .u8 0), 1, 1) := by kernel_rfl
theorem four_val (wr : World) (cs : List Value) (t : TypeId) : ∀ j u, cs[j]? = some u → (wr.alloc (.cells cs.toArray t)).cell? ((⟨wr.heap.size, 0, none⟩ : Addr).add j) = some u := by
  intro j u hj
  have e : (⟨wr.heap.size, 0, none⟩ : Addr).add j = ⟨wr.heap.size, j, none⟩ := by unfold Addr.add; split <;> simp_all
  rw [e, World.cell?_alloc_new]
  simpa using hj

set_option maxRecDepth 100000 in
set_option maxHeartbeats 2000000 in
theorem rCrcSeal_any (v : Value) (zs : List Int) (w : World) (hl : Lst w w.heap.size .u8 v zs) (hb : IsByte zs) (hn : zs.length ≤ 1000000) :
    Calls Try.prog 16 #[v] w (Copied 5 .u8 w (sealI zs)) := by
  obtain ⟨i0, hi, hz0, hz1, hz2⟩ := info_parts byte_info7
  obtain ⟨A, c, rfl⟩ := hl.len
  have CS := Lib.hid (rCrcSum_any _ zs w hl hb hn)
  have HSrc := Lib.hid (hl.src (w' := w.alloc (.cells #[] 5)) fun _ hp => (below_new w _).cell hp)
  have hO : Owned 5 .u8 (w.alloc (.cells #[] 5)) w.heap.size (.slice (some ⟨w.heap.size, 0, none⟩) 0 0) [] := owned_empty _ w _ (Nat.le_refl _)
  have hB := below_new w (.cells #[] 5)
  obtain ⟨s0, s1⟩ := crcI_bd hb
  have HE : Hid (∀ xs, xs = zs ++ tailI (crcI zs) → xs = sealI zs) := Lib.hid fun xs h => h
  clear hl hb
  generalize crcI zs = s at *
  go_enter Try.func16, Try.ntmps16
  go_wp2_with fail
  refine (CS.out).mono ?_; rintro e w1 ⟨rfl, rfl⟩
  go_wp2_with (at_builtin; first
    | (refine wpList_append_src _ rfl (.tmp 6) (.tmp 7) 23 rfl w.heap.size 5 i0 (.int .u8 0) Try.underlying23 hi hz0 hz1 1 hz2 rfl _ 0 [] rfl hO A c _ rfl HSrc.out (by unfold maxLen; omega) (by omega) hB.size ?_; intro v2 w2 hown2 hgrow2; obtain ⟨hO2, hbj⟩ := hO.join (ys := zs) hB.size hown2 hgrow2; have hB2 := hB.trans hbj; clear hown2 hgrow2 hbj)
    | (refine wpList_append_own _ rfl (.tmp 8) (.tmp 20) 23 rfl w.heap.size 5 i0 (.int .u8 0) 1 1 Try.underlying23 hi hz0 hz1 hz2 rfl (by decide) _ ([] ++ zs).length (([] ++ zs).map (Value.int .u8)) rfl (World.ownsRow.alloc hO2 _) ⟨w2.heap.size, 0, none⟩ 4 4 [.int .u8 (s % 256), .int .u8 (s / 256 % 256), .int .u8 (s / 65536 % 256), .int .u8 (s / 16777216)] rfl rfl (four_val _ _ _) (fun u hu => by simp at hu; rcases hu with rfl | rfl | rfl | rfl <;> rfl) (by simp; unfold maxLen; omega) (by simp; omega) (by simp; have := hB2.size; omega) ?_; intro v3 w3 hown3 hgrow3 _))
  have hB3 := (hB2.alloc hB2.size _).grown hgrow3 (by simp; have := hB2.size; omega) (fun k hk => (World.ownsRow.lt hO2 k hk).1)
  go_ret
  exact ⟨_, rfl, by rw [← HE.out _ rfl]; unfold Owned; rw [List.map_append, List.length_append]; simpa [tailI] using hown3, hB3⟩
end Go.Proofs.Ytckbkbfnddhpnaa
