/- The document's own rank: Rank of noonmarkref05, walked. -/
import Derived.Test.YtmafkknnekkcdaaHstB
import Derived.Test.YtmafkknnekkcdaaCmp
import Derived.Test.YtmafkknnekkcdaaWide
import Derived.Test.YtmafkknnekkcdaaAt2
import Derived.Deep.RegionWith
import Derived.Deep.CutBlock
import Derived.Deep.DeepCutAuto
namespace Go.Proofs.Ytmafkknnekkcdaa
open Go.RowKit

/-- The bucket of the value with a number, from a bucket on; -1: there is none. -/
def rankI : List Int → Int → Nat → Int
  | [], _, _ => -1
  | n :: t, x, i => if x < n then i else rankI t (x - n) (i + 1)
/-- Rank of a row and a number of two words. -/
def rankV (zs : List Int) (hi lo : Int) : Int := if nonegB zs = false ∨ hi < 0 then -1 else rankI zs (hi * 18446744073709551616 + lo) 0
theorem rank_next {zs : List Int} {k : Nat} (h : k < zs.length) (x : Int) : rankI (zs.drop k) x k = if x < zs[k] then (k : Int) else rankI (zs.drop (k + 1)) (x - zs[k]) (k + 1) := by
  rw [List.drop_eq_getElem_cons h]; rfl
theorem noneg_at {zs : List Int} (h : nonegB zs = true) {k : Nat} (hk : k < zs.length) : 0 ≤ zs[k] := by
  unfold nonegB at h
  exact of_decide_eq_true (List.all_eq_true.1 h _ (List.getElem_mem hk))
theorem cmp_lt0 {x y : Int} : decide (cmpI x y < 0) = decide (x < y) := by
  unfold cmpI
  apply decide_eq_decide.2
  by_cases h : y < x
  · rw [if_pos h]; omega
  · rw [if_neg h]; split <;> omega
theorem mag_two {x : Int} (h0 : 0 ≤ x) (h1 : x < 340282366920938463463374607431768211456) : mag x < 65536 ^ 8 := by
  rw [pow8, mag_pos (by omega)]; exact h1

set_option maxRecDepth 100000 in
set_option maxHeartbeats 8000000 in
theorem rRank_any (zs : List Int) (hi lo : Int) (w : World) (hl : zs.length = 65) (hf : ∀ z ∈ zs, Fits z) (hh : Fits hi) (l0 : 0 ≤ lo) (l1 : lo ≤ 18446744073709551615) :
    Calls Try.prog 25 #[rowV zs, .int .i64 hi, .int .u64 lo] w fun e w' => e = .returned (.int .i64 (rankV zs hi lo)) ∧ Below w.heap.size w w' := by
  have R0 := RowAt.new w zs 32
  have hB := below_new w (.cells ((zs.map (Value.int .i64)).toArray) 32)
  have HI : Hid ((Try.prog.info? 32).map (·.size) = some (zs.map (Value.int .i64)).length) := Lib.hid (by rw [info65, List.length_map, hl])
  have HR := Lib.hid R0.range
  have CR := Lib.hid (rRight5_any zs · hl)
  have HL := Lib.hid hl
  have HF := Lib.hid hf
  clear hf
  cases hng : nonegB zs with
  | false =>
    have HE : Hid (rankV zs hi lo = -1) := Lib.hid (if_pos (Or.inl hng))
    rw [hng] at CR
    clear hng hl R0
    go_enter Try.func25, Try.ntmps25
    go_wp2_with (refine wpList_load_mid rfl _ (.tmp 3) rfl _ 0 rfl _ _ HR.out Try.underlying32 rfl HI.out ?_)
    refine (CR.out _).mono ?_; rintro e w1 ⟨rfl, h⟩
    replace hB := ext_step hB h
    go_wp2_with fail
    go_ret
    exact ⟨ret_one HE.out.symm, hB⟩
  | true =>
    rw [hng] at CR
    by_cases hneg : hi < 0
    · have HE : Hid (rankV zs hi lo = -1) := Lib.hid (if_pos (Or.inr hneg))
      clear hng hl R0
      go_enter Try.func25, Try.ntmps25
      go_wp2_with (refine wpList_load_mid rfl _ (.tmp 3) rfl _ 0 rfl _ _ HR.out Try.underlying32 rfl HI.out ?_)
      refine (CR.out _).mono ?_; rintro e w1 ⟨rfl, h⟩
      replace hB := ext_step hB h
      go_wp2_with fail
      go_ret
      exact ⟨ret_one HE.out.symm, hB⟩
    have HNG := Lib.hid hng
    obtain ⟨x, hx⟩ : ∃ x, hi * 18446744073709551616 + lo = x := ⟨_, rfl⟩
    have x0 : 0 ≤ x := by omega
    have x1 : x < 340282366920938463463374607431768211456 := by unfold Fits at hh; omega
    have HE : Hid (rankV zs hi lo = rankI (zs.drop 0) x 0) := Lib.hid ((if_neg (by rw [hng]; simp; omega)).trans (by rw [hx]; rfl))
    have CN := Lib.hid fun W => num2_any hi lo W hh l0 l1
    rw [hx] at CN
    clear hng hl hx hh l0 l1
    go_enter Try.func25, Try.ntmps25
    go_wp2_with (refine wpList_load_mid rfl _ (.tmp 3) rfl _ 0 rfl _ _ HR.out Try.underlying32 rfl HI.out ?_)
    refine (CR.out _).mono ?_; rintro e w1 ⟨rfl, h⟩
    replace hB := ext_step hB h
    replace R0 := R0.below h
    clear h CR HR
    go_wp2_with fail
    refine (CN.out _).mono ?_; rintro e w2 ⟨r2, rfl, hr2, h⟩
    replace hB := ext_step hB h
    replace R0 := R0.below h
    clear h CN
    obtain ⟨s2, A2, n2, c2, rfl, -, -⟩ := hr2.form
    have hX := NumAt.new hr2 50
    have hle := hB.size
    have hne : w.heap.size ≠ w2.heap.size := Nat.ne_of_lt R0.lt
    replace R0 := R0.alloc (.cells #[.bool s2, .slice A2 n2 c2] 50)
    replace hB := ext_alloc hB (.cells #[.bool s2, .slice A2 n2 c2] 50)
    go_wp2_with fail
    generalize w2.heap.size = gX at *
    generalize w2.alloc (.cells #[.bool s2, .slice A2 n2 c2] 50) = W2 at *
    clear hr2
    go_loopw [8] (fun i wr => ∃ (k : Nat) (x : Int) (s : Bool) (A : Option Addr) (n c : Nat), k ≤ 65 ∧ i = .int .i64 k ∧ 0 ≤ x ∧ x < 340282366920938463463374607431768211456 ∧ Hid (rankV zs hi lo = rankI (zs.drop k) x k) ∧ NumAt wr gX s A n c x ∧ RowAt wr w.heap.size zs ∧ Below w.heap.size w wr) (fun i _ => 65 - (intOf i).toNat)
    case atStart => exact ⟨0, x, s2, A2, n2, c2, Nat.zero_le _, rfl, x0, x1, HE, hX, R0, hB⟩
    case round =>
      clear hB R0 hX HE x0 x1
      obtain ⟨k, x, s, A, n, c, hk, rfl, x0, x1, HE, hX, R0, hB⟩ := hrel
      by_cases hlt : k < 65
      · have hkz : k < zs.length := by rw [HL.out]; exact hlt
        have c1 := R0.cell k hkz
        have i0 : (0 : Int) ≤ (k : Int) := by omega
        have i1 : (k : Int) < 65 := by omega
        have z0 := noneg_at HNG.out hkz
        have hz := HF.out _ (List.getElem_mem hkz)
        have HN := Lib.hid (rank_next hkz x)
        generalize zs[k] = z at *
        have CO := Lib.hid fun W => of_any z W hz
        have HZF := Lib.hid hz
        clear hz
        go_wp2_with fail
        refine (CO.out _).mono ?_; rintro e w3 ⟨r3, rfl, hr3, h⟩
        clear c1 CO
        replace hB := ext_step hB h
        replace R0 := R0.below h
        replace hX := hX.below h
        clear h
        obtain ⟨s3, A3, n3, c3, rfl, -, -⟩ := hr3.form
        have hZ := NumAt.new hr3 50
        have hne3 : gX ≠ w3.heap.size := Nat.ne_of_lt hX.lt
        replace R0 := R0.alloc (.cells #[.bool s3, .slice A3 n3 c3] 50)
        replace hX := hX.alloc (.cells #[.bool s3, .slice A3 n3 c3] 50)
        replace hB := ext_alloc hB (.cells #[.bool s3, .slice A3 n3 c3] 50)
        go_upto_region 8 with fail
        generalize w3.heap.size = gZ at *
        generalize w3.alloc (.cells #[.bool s3, .slice A3 n3 c3] 50) = W3 at *
        clear hr3
        have CC := Lib.hid fun (u v : Value) (W : World) (a : NumV W u x) (b : NumV W v z) => cmp_any u v x z W 8 a b (mag_two x0 x1) (by have := mag_long HZF.out; rw [pow4] at this; rw [pow8]; omega) (by omega)
        obtain ⟨l0, l1, -, -, l4⟩ := id hX
        obtain ⟨k0, k1, -, -, k4⟩ := id hZ
        go_wp2_with fail
        refine (CC.out _ _ _ l4 k4).mono ?_; rintro e w4 ⟨rfl, h⟩
        clear l0 l1 l4 k0 k1 k4
        replace hB := ext_step hB h
        replace R0 := R0.below h
        replace hX := hX.below h
        replace hZ := hZ.below h
        clear h CC
        by_cases hxz : x < z
        · have e1 : decide (cmpI x z < 0) = true := cmp_lt0.trans (decide_eq_true hxz)
          have HQ : Hid (rankV zs hi lo = (k : Int)) := Lib.hid (HE.out.trans (HN.out.trans (if_pos hxz)))
          clear hxz
          go_wp2_with fail
          go_ret
          exact ⟨ret_one HQ.out.symm, hB⟩
        · have e1 : decide (cmpI x z < 0) = false := cmp_lt0.trans (decide_eq_false hxz)
          have HQ : Hid (rankV zs hi lo = rankI (zs.drop (k + 1)) (x - z) (k + 1)) := Lib.hid (HE.out.trans (HN.out.trans (if_neg hxz)))
          have x2 : 0 ≤ x - z := by omega
          have x3 : x - z < 340282366920938463463374607431768211456 := by omega
          clear hxz HE HN
          go_upto_region 10 with fail
          have M8 : Hid (mag x < 65536 ^ 8) := Lib.hid (mag_two x0 x1)
          have M9 : Hid (mag z < 65536 ^ 8) := Lib.hid (by have := mag_long HZF.out; rw [pow4] at this; rw [pow8]; omega)
          have M7 : Hid (mag (-z) < 65536 ^ 8) := Lib.hid (by
            have e : mag (-z) = mag z := by unfold mag; split <;> split <;> omega
            rw [e]; exact M9.out)
          have HS9 := Lib.hid (show x - z = x + -z by omega)
          obtain ⟨l0, l1, -, -, l4⟩ := id hX
          obtain ⟨k0, k1, -, -, k4⟩ := id hZ
          go_region_with (first
            | (go_at_call 41; refine (neg_any _ z _ 8 (by exact k4) M9.out (by omega)).mono ?_; rintro e w5 ⟨r5, rfl, hr5, hq⟩; have hX5 : NumAt w5 gX s A n c x := hX.below ⟨hq.os, hq.tape, hq.output, hq.size, hq.block⟩; have R5 : RowAt w5 w.heap.size zs := R0.below ⟨hq.os, hq.tape, hq.output, hq.size, hq.block⟩; have hB5 : Below w.heap.size w w5 := ext_step hB ⟨hq.os, hq.tape, hq.output, hq.size, hq.block⟩; clear hq; obtain ⟨a0, a1, a2, a3, a4⟩ := id hX5)
            | (go_at_call 20; refine (addN_any _ _ x (-z) _ 8 (by exact a4) (by exact hr5) M8.out M7.out (by omega)).mono ?_; rintro e w6 ⟨r6, rfl, hr6, hq⟩; have hX6 : NumAt w6 gX s A n c x := hX5.below ⟨hq.os, hq.tape, hq.output, hq.size, hq.block⟩; have R6 : RowAt w6 w.heap.size zs := R5.below ⟨hq.os, hq.tape, hq.output, hq.size, hq.block⟩; have hB6 : Below w.heap.size w w6 := ext_step hB5 ⟨hq.os, hq.tape, hq.output, hq.size, hq.block⟩; clear hq; obtain ⟨b0, b1, b2, b3, b4⟩ := id hX6; have HS6 := Lib.hid hr6; obtain ⟨s6, A6, n6, c6, rfl, -, -⟩ := hr6.form))
          all_goals
            go_wp2_with fail
            go_roundw
            case rel => exact ⟨k + 1, x - z, s6, A6, n6, c6, by omega, by go_num, x2, x3, HQ, by rw [HS9.out]; exact hX6.set_ HS6.out, (R6.other (fun e => hne e.symm) _).other (fun e => hne e.symm) _, ext_put (ext_put hB6 hle _) hle _⟩
            case measure => simp [intOf]; omega
      · obtain rfl : k = 65 := by omega
        have HQ : Hid (rankV zs hi lo = -1) := Lib.hid (HE.out.trans (by rw [List.drop_eq_nil_of_le (by have := HL.out; omega)]; rfl))
        go_wp2_with fail
        go_ret
        exact ⟨ret_one HQ.out.symm, hB⟩
end Go.Proofs.Ytmafkknnekkcdaa
