/- CrcFlips, walked. -/
import Derived.Test.YtckbkbfnddhpnaaCrcLawB
namespace Go.Proofs.Ytckbkbfnddhpnaa
open Go.RowKit

/-- What the copy holds when i bits have been looked at. -/
structure Flip (bs : List Int) (a f i : Nat) (ts : List Int) : Prop where
  len : ts.length = bs.length
  byte : IsByte ts
  msg : msgN (natL ts) = msgN (natL bs) ^^^ 2 ^ a * (f % 2 ^ i)
  most : f % 2 ^ i = 0 ∨ a ≤ 8 * bs.length
theorem natL_set (zs : List Int) (q : Nat) (z : Int) : natL (zs.set q z) = (natL zs).set q z.toNat := by unfold natL; rw [List.map_set]
theorem Flip.skip {bs ts : List Int} {a f k : Nat} (h : Flip bs a f k ts) (hb : f.testBit k = false) : Flip bs a f (k + 1) ts :=
  ⟨h.len, h.byte, by rw [flip_skip hb]; exact h.msg, by rw [flip_skip hb]; exact h.most⟩
theorem Flip.next {bs ts : List Int} {a f k q r x : Nat} (h : Flip bs a f k ts) (hb : f.testBit k = true) (hq : q < ts.length) (hr : r < 8) (e : 8 * q + r = a + k) (hx : ts[q] = (x : Int)) : Flip bs a f (k + 1) (ts.set q ((x ^^^ 2 ^ r : Nat) : Int)) := by
  have hx2 : x < 256 := by have := h.byte _ (List.getElem_mem hq); omega
  have hl : q < (natL ts).length := by unfold natL; rw [List.length_map]; exact hq
  have hv : (natL ts)[q] = x := by simp only [natL, List.getElem_map, hx]; omega
  refine ⟨by rw [List.length_set]; exact h.len, fun c hc => ?_, ?_, Or.inr ?_⟩
  · rcases List.mem_or_eq_of_mem_set hc with hc | rfl
    · exact h.byte c hc
    · have := flip_byte hx2 hr
      omega
  · have := msgN_flip (natL_byte h.byte) hl hr
    rw [hv, h.msg, Nat.xor_assoc, e, flip_next hb] at this
    rw [natL_set, Int.toNat_natCast]
    exact this
  · have := h.len
    omega
theorem bit_tmod (f k : Nat) : (((f : Int) / 2 ^ k).tmod 2 == 0) = !f.testBit k := by
  have e : ((f : Int) / 2 ^ k).tmod 2 = ((f / 2 ^ k % 2 : Nat) : Int) := by
    rw [Int.natCast_emod, Int.natCast_ediv, Int.natCast_pow]
    exact Int.tmod_eq_emod_of_nonneg (Int.ediv_nonneg (Int.natCast_nonneg f) (Int.pow_nonneg (by decide)))
  rw [e, bit_mod]
  rcases Nat.mod_two_eq_zero_or_one (f / 2 ^ k) with h | h <;> rw [h] <;> rfl
theorem Flip.other {bs ts : List Int} {a f : Nat} (h : Flip bs a f 32 ts) (F0 : IsByte bs) (h0 : 0 < f) (hf : f < 4294967296) : crcI ts ≠ crcI bs := fun e => by
  have h32 : f % 2 ^ 32 = f := Nat.mod_eq_of_lt (by omega)
  have hm := h.msg
  have ho := h.most
  rw [h32] at hm ho
  have hl : (natL ts).length = (natL bs).length := by unfold natL; rw [List.length_map, List.length_map, h.len]
  refine crcN_burst (natL_byte h.byte) (natL_byte F0) hl h0 hf ?_ hm ?_
  · unfold natL; rw [List.length_map]; omega
  · unfold crcI at e; omega
theorem open_other {ts : List Int} {s : Int} (hb : IsByte ts) (h0 : 0 ≤ s) (h1 : s < 4294967296) (h : crcI ts ≠ s) : openI (ts ++ tailI s) = ([], 14) := by
  have hl : (ts ++ tailI s).length = ts.length + 4 := by rw [List.length_append, tailI_len]
  have ht : (ts ++ tailI s).take ((ts ++ tailI s).length - 4) = ts := by rw [hl, Nat.add_sub_cancel, List.take_left]
  unfold openI
  rw [if_neg (by omega), ht, if_neg]
  intro e
  have e2 := List.append_cancel_left (show ts ++ tailI s = ts ++ tailI (crcI ts) from e)
  exact h (tailI_inj h0 h1 (crcI_bd hb).1 (crcI_bd hb).2 e2).symm
theorem bit_val : ∀ r, r < 8 → (2 : Int) ^ r % 256 = ((2 ^ r : Nat) : Int) := by decide

set_option maxRecDepth 100000 in
set_option maxHeartbeats 4000000 in
theorem crcFlips_any (G : CrcC) (v0 : Value) (bs : List Int) (m : Int) (f : Nat) (w : World) (L0 : Lst w w.heap.size .u8 v0 bs) (F0 : IsByte bs) (_hm : Fits m) (hf : f < 4294967296) :
    Calls Try.prog 5 #[v0, .int .i64 m, .int .u32 f] w fun e w' => e = .returned (.bool true) ∧ Below w.heap.size w w' := by
  obtain ⟨A0, c0, rfl⟩ := L0.len
  have C0 := Lib.hid (alive7_any G w)
  by_cases hlen : 2000 < bs.length
  · have h1 : (2000 : Int) < (bs.length : Int) := by omega
    clear G L0 F0
    go_enter Try.func5, Try.ntmps5
    go_wp2_with fail
    refine (C0.out).mono ?_; rintro e w1 ⟨rfl, hB⟩
    go_wp2_with fail
    go_ret
    exact ⟨rfl, hB⟩
  have h1 : ¬ (2000 : Int) < (bs.length : Int) := by omega
  by_cases hf0 : (f : Int) = 0
  · clear G L0 F0
    go_enter Try.func5, Try.ntmps5
    go_wp2_with fail
    refine (C0.out).mono ?_; rintro e w1 ⟨rfl, hB⟩
    go_wp2_with fail
    go_ret
    exact ⟨rfl, hB⟩
  by_cases hm0 : m < 0
  · clear G L0 F0
    go_enter Try.func5, Try.ntmps5
    go_wp2_with fail
    refine (C0.out).mono ?_; rintro e w1 ⟨rfl, hB⟩
    go_wp2_with fail
    go_ret
    exact ⟨rfl, hB⟩
  by_cases hm1 : 16000 < m
  · clear G L0 F0
    go_enter Try.func5, Try.ntmps5
    go_wp2_with fail
    refine (C0.out).mono ?_; rintro e w1 ⟨rfl, hB⟩
    go_wp2_with fail
    go_ret
    exact ⟨rfl, hB⟩
  have hf2 : ((f : Int) == 0) = false := by simpa using hf0
  obtain ⟨a, rfl⟩ := Int.eq_ofNat_of_zero_le (by omega : 0 ≤ m)
  have ha : a ≤ 16000 := by omega
  have hn : bs.length ≤ 2000 := by omega
  have HL0 := Lib.hid L0
  have HF0 := Lib.hid F0
  have HG := Lib.hid G
  clear G L0 F0
  go_enter Try.func5, Try.ntmps5
  go_wp2_with fail
  refine (C0.out).mono ?_; rintro e w1 ⟨rfl, hB1⟩
  have hP := Lib.hid (lit_one w1 23 _ _ ((HL0.out.below hB1).more hB1.size))
  have hBa := ext_alloc hB1 (.cells #[.slice A0 bs.length c0] 23)
  clear C0
  go_wp2_with fail
  refine (HG.out.seal_ _ _ _ hP.out (by intro p hp; simp only [List.mem_cons, List.not_mem_nil, or_false] at hp; subst hp; exact HF0.out) (by simp) (by simp; omega)).mono ?_; rintro e w2 ⟨s, rfl, hO2, h⟩
  rw [show [bs].flatten = bs by simp] at hO2
  have hB2 := ext_step hBa h
  have hS2 := hO2.lst
  clear h hO2 hBa hB1 hP
  go_wp2_with fail
  refine (copyBytes_any _ bs w2 ((HL0.out.below hB2).more hB2.size) (by omega)).mono ?_; rintro e w3 ⟨t, rfl, hO3, h⟩
  have hB3 := ext_step hB2 h
  have hS3 := (hS2.below h).more h.size
  have HT : Hid (∀ g, t.ownBlock = some g → w2.heap.size ≤ g ∧ g < w3.heap.size) := Lib.hid fun g hg => World.ownsRow.lt hO3 g hg
  have hs2 := hB2.size
  clear h hB2 hS2
  go_wp2_with fail
  refine (copyBytes_any _ _ w3 hS3 (by rw [sealI_len]; omega)).mono ?_; rintro e w4 ⟨u, rfl, hU4, h⟩
  have hB4 := ext_step hB3 h
  have hT4 := (hO3.keep h).less hs2
  have hs3 := hB3.size
  have H0 : Flip bs a f 0 bs := ⟨rfl, HF0.out, by rw [Nat.pow_zero, Nat.mod_one, Nat.mul_zero, Nat.xor_zero], Or.inl (by rw [Nat.pow_zero, Nat.mod_one])⟩
  clear h hB3 hS3 hO3 hs2
  go_wp2_with fail
  go_loopw [10] (fun i wr => ∃ k : Nat, ∃ ts, k ≤ 32 ∧ i = .int .i64 k ∧ Owned 5 .u8 wr w.heap.size t ts ∧ Owned 5 .u8 wr w3.heap.size u (ts ++ tailI (crcI bs)) ∧ Below w.heap.size w wr ∧ Hid (Flip bs a f k ts)) (fun i _ => 32 - (intOf i).toNat)
  case atStart => exact ⟨0, bs, by decide, rfl, hT4, hU4, hB4, Lib.hid H0⟩
  case round =>
    clear hT4 hU4 hB4 H0
    obtain ⟨k, ts, hk, rfl, hT, hU, hB, HFl⟩ := hrel
    by_cases hlt : k < 32
    · have j1 : (k : Int) < 32 := by omega
      have hbt := bit_tmod f k
      by_cases hb : f.testBit k = true
      · rw [hb, Bool.not_true] at hbt
        by_cases hlq : (a + k) / 8 < ts.length
        · obtain ⟨gt, ct, rfl, hg0, hg1⟩ := hT.form (by omega)
          obtain ⟨gu, cu, rfl, hu0, hu1⟩ := hU.form (by rw [List.length_append, tailI_len]; omega)
          have hgg := HT.out gt rfl
          obtain ⟨x, hx⟩ := Int.eq_ofNat_of_zero_le (HFl.out.byte _ (List.getElem_mem hlq)).1
          have hx2 : x < 256 := by have := (HFl.out.byte _ (List.getElem_mem hlq)).2; omega
          have HNx := Lib.hid (HFl.out.next hb hlq (Nat.mod_lt (a + k) (by decide)) (Nat.div_add_mod (a + k) 8) hx)
          have hq : ((a : Int) + (k : Int)) / 8 = (((a + k) / 8 : Nat) : Int) := by omega
          have hv := bit_val _ (Nat.mod_lt (a + k) (show 0 < 8 by decide))
          have hy2 : 2 ^ ((a + k) % 8) < 256 := Nat.lt_of_lt_of_le (Nat.pow_lt_pow_right (by decide) (Nat.mod_lt (a + k) (show 0 < 8 by decide))) (show 2 ^ 8 ≤ 256 by decide)
          have hxr := xor8 x _ hx2 hy2
          have hlu : (a + k) / 8 < (ts ++ tailI (crcI bs)).length := by rw [List.length_append]; omega
          have hne : gt ≠ gu := by omega
          obtain ⟨ct0, ct1⟩ := hT.at_ hlq
          have hT2 := hT.set_ ((a + k) / 8) ((x ^^^ 2 ^ ((a + k) % 8) : Nat) : Int)
          have hUo := hU.other (g' := gt) (by simp only [Value.ownBlock]; intro e; injection e; omega) ((a + k) / 8) (.int .u8 ((x ^^^ 2 ^ ((a + k) % 8) : Nat) : Int))
          obtain ⟨cu0, cu1⟩ := hUo.at_ hlu
          have hU2 := hUo.set_ ((a + k) / 8) ((x ^^^ 2 ^ ((a + k) % 8) : Nat) : Int)
          rw [hx] at ct0
          rw [List.getElem_append_left hlq, hx] at cu0
          rw [List.set_append_left _ _ hlq] at hU2
          have hT3 := hT2.1.other (g' := gu) (by simp only [Value.ownBlock]; intro e; injection e; omega) ((a + k) / 8) (.int .u8 ((x ^^^ 2 ^ ((a + k) % 8) : Nat) : Int))
          have hB3 := (hB.trans hT2.2).trans (hU2.2.mono hs3)
          have hlq2 : (((a + k) / 8 : Nat) : Int) < (ts.length : Int) := by omega
          have hlu2 : (((a + k) / 8 : Nat) : Int) < ((ts ++ tailI (crcI bs)).length : Int) := by omega
          clear hT hU hUo hT2 hB hx HFl hb
          generalize (ts ++ tailI (crcI bs)).length = lu at *
          generalize x ^^^ 2 ^ ((a + k) % 8) = z at *
          generalize (2 : Nat) ^ ((a + k) % 8) = y at *
          generalize (a + k) / 8 = q at *
          go_wp2_with fail
          go_roundw
          case rel => exact ⟨k + 1, _, hlt, by go_num, hT3, hU2.1, hB3, HNx⟩
          case measure => simp [intOf]; omega
        · obtain ⟨A, c, rfl⟩ := hT.val
          have hge : ¬ ((a : Int) + (k : Int)) / 8 < (ts.length : Int) := by omega
          go_wp2_with fail
          go_ret
          exact ⟨rfl, hB⟩
      · have hb0 : f.testBit k = false := by simpa using hb
        rw [hb0, Bool.not_false] at hbt
        go_wp2_with fail
        go_roundw
        case rel => exact ⟨k + 1, ts, hlt, by go_num, hT, hU, hB, Lib.hid (HFl.out.skip hb0)⟩
        case measure => simp [intOf]; omega
    · obtain rfl : k = 32 := by omega
      have hcs := HFl.out.other HF0.out (by omega) hf
      have hop := open_other HFl.out.byte (crcI_bd HF0.out).1 (crcI_bd HF0.out).2 hcs
      have hby := HFl.out.byte
      have htl := Lib.hid HFl.out.len
      have CO := Lib.hid (HG.out.open_ u _ wr hU.lst (fun c hc => by
        rcases List.mem_append.1 hc with hc | hc
        · exact hby c hc
        · exact tailI_byte (crcI_bd HF0.out).1 (crcI_bd HF0.out).2 c hc) (by have := htl.out; rw [List.length_append, tailI_len]; omega))
      rw [hop] at CO
      have CS := Lib.hid fun W v zs (h : LstL W W.heap.size v [zs]) (hz : IsByte zs) (hl : zs.length ≤ 2000) => show Calls Try.prog 12 #[v] W fun e w' => e = .returned (.int .u32 (crcI zs)) ∧ Below W.heap.size W w' by
        have e : [zs].flatten = zs := by simp
        have := HG.out.sum v _ W h (by intro p hp; simp only [List.mem_cons, List.not_mem_nil, or_false] at hp; subst hp; exact hz) (by simp) (by rw [e]; omega)
        rwa [e] at this
      have hcs2 : (crcI ts == crcI bs) = false := by simpa using hcs
      have hcs3 : (crcI ts != crcI bs) = true := by simpa using hcs
      have hT0 := hT.lst
      obtain ⟨At, ct, rfl⟩ := hT.val
      clear hT hU HFl hop HG
      go_wp2_with fail
      refine (CO.out).mono ?_; rintro e w5 ⟨c, rfl, hL, h⟩
      obtain ⟨Ac, cc, rfl⟩ := hL.len
      have hB5 := ext_step hB h
      have hP := Lib.hid (lit_one w5 23 _ _ ((hT0.below h).more h.size))
      have hBa := ext_alloc hB5 (.cells #[.slice At ts.length ct] 23)
      clear h hL hT0 hB CO
      go_wp2_with fail
      refine (CS.out _ _ _ hP.out hby (by have := htl.out; omega)).mono ?_; rintro e w6 ⟨rfl, h⟩
      have hB6 := ext_step hBa h
      have hP := Lib.hid (lit_one w6 23 _ _ ((HL0.out.below hB6).more hB6.size))
      have hBb := ext_alloc hB6 (.cells #[.slice A0 bs.length c0] 23)
      clear h hB5 hBa
      go_wp2_with fail
      refine (CS.out _ _ _ hP.out HF0.out (by omega)).mono ?_; rintro e w7 ⟨rfl, h⟩
      have hB7 := ext_step hBb h
      clear h hBb hB6
      go_wp2_with fail
      go_ret
      exact ⟨rfl, hB7⟩
end Go.Proofs.Ytckbkbfnddhpnaa
