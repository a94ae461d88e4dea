/- The walk of 'WideTexts': for all numbers and texts it answers true. -/
import Derived.Test.YtedojpblfmkjeaaDoorAlive2
import Derived.Test.YtedojpblfmkjeaaDoorSame
import Derived.Test.YtedojpblfmkjeaaDoorCmp
import Derived.Test.YtedojpblfmkjeaaDoorText
import Derived.Test.YtedojpblfmkjeaaDoorParse
namespace Go.Proofs.YtedojpblfmkjeaaDoor
open Go.RowKit

theorem field_sign (b : Bool) (v : Value) (w : World) : (Instr.field 34 (.agg #[.bool b, v]) 0).run Tryd.prog w = .ok (.bool b) w := by kernel_rfl
theorem cmpI_self (z : Int) : cmpI z z = 0 := by unfold cmpI; rw [if_neg (by omega), if_neg (by omega)]
theorem txNum_mag (l : List UInt8) : mag (txNum l) < 65536 ^ 12 := by
  unfold txNum
  split
  · rename_i hg
    simp only [txGood, txHead, Bool.and_eq_true, decide_eq_true_eq] at hg
    have h := dig_mag (t := txBody l) (k := (txBody l).length) hg.1.1.2 (by rw [List.take_length]; exact hg.2)
    rw [List.take_length] at h
    split
    · rw [show mag (-(digNat (txBody l) : Int)) = mag (digNat (txBody l) : Int) by unfold mag; split <;> split <;> omega]; exact h
    · exact h
  · rw [show mag 0 = 0 by rfl]; decide

set_option maxRecDepth 100000 in
set_option maxHeartbeats 4000000 in
theorem texts_walk (a : Int) (ha : Two a) (s : ByteArray) (l : List UInt8) (hl : s.data.toList = l) (w : World) (hp : Pows w) :
    Calls Tryd.prog 5 #[.agg #[.int .i64 ((a) / 18446744073709551616), .int .u64 ((a) % 18446744073709551616)], .string s] w fun e w' => e = .returned (.bool true) ∧ Below w.heap.size w w' := by
  have C0 := Lib.hid alive2_any
  have hfs := field_sign
  by_cases h200 : 200 < s.size
  · have B0 := up1 w (.cells #[.int .i64 (a / 18446744073709551616), .int .u64 (a % 18446744073709551616)] 24)
    go_enter Tryd.func5, Tryd.ntmps5
    go_wp2_with fail
    refine (C0.out _ (hp.below B0)).mono ?_; rintro e w1 ⟨rfl, h1⟩
    go_wp2_with fail
    go_ret
    exact ⟨rfl, ext_step B0 h1⟩
  have hok0 : okW (textI a) = true := by
    have h := text_good ha
    rw [okW, h.1, h.2, decide_eq_true ha]; rfl
  obtain ⟨T, hT⟩ : ∃ T : ByteArray, T.data.toList = textI a := ⟨⟨(textI a).toArray⟩, by simp⟩
  have hTs : T.size ≤ 140737488355328 := by rw [bytes_len hT]; have := okW_len hok0; omega
  have CT : Hid (∀ W : World, Pows W → Calls Tryd.prog 26 #[.agg #[.int .i64 ((a) / 18446744073709551616), .int .u64 ((a) % 18446744073709551616)]] W fun e w' => e = .returned (.string T) ∧ Below W.heap.size W w') := Lib.hid fun W h => (textW_any a ha W h).mono fun e w' ⟨S, he, hS, hb⟩ => ⟨by rw [he, bytes_same (S := S) (T := T) (hS.trans hT.symm)], hb⟩
  have CB : Hid (∀ W : World, Pows W → Calls Tryd.prog 27 #[.string T] W fun e w' => e = .returned (.tuple #[.agg #[.int .i64 ((a) / 18446744073709551616), .int .u64 ((a) % 18446744073709551616)], .bool true]) ∧ Below W.heap.size W w') := Lib.hid fun W h => (parseW_any T (textI a) hT W h hTs).mono fun e w' ⟨he, hb⟩ => ⟨by rw [he, readW_ok hok0, (text_good ha).2, hok0], hb⟩
  have CN := Lib.hid (numW_any a ha)
  have CX : Hid (∀ (r : Value) (W : World), NumV W r a → Calls Tryd.prog 30 #[r] W fun e w' => e = .returned (.string T) ∧ Below W.heap.size W w') := Lib.hid fun r W h => (text2_any r a W 9 h (two_mag ha) (by omega) (by omega)).mono fun e w' ⟨S, he, hS, hb⟩ => ⟨by rw [he, bytes_same (S := S) (T := T) (hS.trans hT.symm)], hb⟩
  clear hT hTs hok0 ha
  have h200' : ¬ 200 < (s.size : Int) := by omega
  by_cases hg : ¬ txGood l = true
  · have hg : txGood l = false := by simpa using hg
    have ht : Two (txNum l) := by rw [txNum, hg]; exact two_zero
    have hd : decide (Fits (txNum l / 18446744073709551616)) = true := decide_eq_true ht
    have hok : okW l = false := by rw [okW, hg]; rfl
    have CP : Hid (∀ W : World, Pows W → Calls Tryd.prog 27 #[.string s] W fun e w' => e = .returned (.tuple #[.agg #[.int .i64 0, .int .u64 0], .bool false]) ∧ Below W.heap.size W w') := Lib.hid fun W h => (parseW_any s l hl W h (by omega)).mono fun e w' ⟨he, hb⟩ => ⟨by rw [he, readW_no hok, hok]; rfl, hb⟩
    have CQ : Hid (∀ W : World, Calls Tryd.prog 28 #[.string s] W fun e w' => ∃ r, e = .returned (.tuple #[r, .bool false]) ∧ NumV w' r (txNum l) ∧ Below W.heap.size W w') := Lib.hid fun W => (parse2_any s l hl W (by omega)).mono fun e w' ⟨r, he, hn, hb⟩ => ⟨r, by rw [he, hg], hn, hb⟩
    have CW : Hid (∀ (r : Value) (W : World), NumV W r (txNum l) → Calls Tryd.prog 29 #[r] W fun e w' => e = .returned (.tuple #[.int .i64 (wordHi (txNum l)), .int .u64 (wordLo (txNum l)), .bool true]) ∧ Below W.heap.size W w') := Lib.hid fun r W h => (words_any r _ W 12 h (txNum_mag l) (by omega) (by omega)).mono fun e w' ⟨he, hb⟩ => ⟨by rw [he, hd], hb⟩
    clear hg ht hd hok hl
    have hA := AtP.new w (a / 18446744073709551616) (a % 18446744073709551616) 24
    have B0 := up1 w (.cells #[.int .i64 (a / 18446744073709551616), .int .u64 (a % 18446744073709551616)] 24)
    go_enter Tryd.func5, Tryd.ntmps5
    go_wp2_with fail
    refine (C0.out _ (hp.below B0)).mono ?_; rintro e w1 ⟨rfl, h1⟩
    have B1 : Below w.heap.size w w1 := ext_step B0 h1
    replace hA := hA.below h1
    obtain ⟨hA0, hA1, -, -⟩ := id hA
    go_wp2_with fail
    refine (CT.out _ (hp.below B1)).mono ?_; rintro e w2 ⟨rfl, h2⟩
    have B2 : Below w.heap.size w w2 := ext_step B1 h2
    replace hA := hA.below h2
    clear hA0 hA1
    go_wp2_with fail
    refine (CB.out _ (hp.below B2)).mono ?_; rintro e w3 ⟨rfl, h3⟩
    have B3 : Below w.heap.size w w3 := ext_step B2 h3
    replace hA := hA.below h3
    replace hA := hA.alloc (.cells #[.int .i64 (a / 18446744073709551616), .int .u64 (a % 18446744073709551616)] 24)
    have XB3 := ext_alloc B3 (.cells #[.int .i64 (a / 18446744073709551616), .int .u64 (a % 18446744073709551616)] 24)
    have hB := AtP.new w3 (a / 18446744073709551616) (a % 18446744073709551616) 24
    go_wp2_with fail
    refine (CP.out _ (hp.below XB3)).mono ?_; rintro e w4 ⟨rfl, h4⟩
    have B4 : Below w.heap.size w w4 := ext_step XB3 h4
    replace hA := hA.below h4
    replace hB := hB.below h4
    replace hA := hA.alloc (.cells #[.int .i64 0, .int .u64 0] 24)
    replace hB := hB.alloc (.cells #[.int .i64 0, .int .u64 0] 24)
    have XB4 := ext_alloc B4 (.cells #[.int .i64 0, .int .u64 0] 24)
    have hC := AtP.new w4 0 0 24
    go_wp2_with fail
    refine (CQ.out _).mono ?_; rintro e w5 ⟨r1, rfl, hr1, h5⟩
    have B5 : Below w.heap.size w w5 := ext_step XB4 h5
    replace hA := hA.below h5
    replace hB := hB.below h5
    replace hC := hC.below h5
    obtain ⟨s1, A1, n1, c1, rfl, hs1, -⟩ := hr1.form
    have hN := NumAt.new hr1 34
    replace hA := hA.alloc (.cells #[.bool s1, .slice A1 n1 c1] 34)
    replace hB := hB.alloc (.cells #[.bool s1, .slice A1 n1 c1] 34)
    replace hC := hC.alloc (.cells #[.bool s1, .slice A1 n1 c1] 34)
    have XB5 := ext_alloc B5 (.cells #[.bool s1, .slice A1 n1 c1] 34)
    obtain ⟨hN0, hN1, -, -, -⟩ := id hN
    go_wp2_with fail
    refine (CW.out _ _ hN.num).mono ?_; rintro e w6 ⟨rfl, h6⟩
    have B6 : Below w.heap.size w w6 := ext_step XB5 h6
    replace hA := hA.below h6
    replace hB := hB.below h6
    replace hC := hC.below h6
    replace hN := hN.below h6
    clear hN0 hN1
    obtain ⟨hA0, hA1, -, -⟩ := id hA
    obtain ⟨hB0, hB1, -, -⟩ := id hB
    obtain ⟨hC0, hC1, -, -⟩ := id hC
    obtain ⟨hN0, hN1, -, -, -⟩ := id hN
    go_wp2_with fail
    refine (CN.out _).mono ?_; rintro e w7 ⟨rA, rfl, hrA, h7⟩
    have B7 : Below w.heap.size w w7 := ext_step B6 h7
    replace hA := hA.below h7
    replace hB := hB.below h7
    replace hC := hC.below h7
    replace hN := hN.below h7
    clear hA0 hA1 hB0 hB1 hC0 hC1
    clear hN0 hN1
    obtain ⟨hA0, hA1, -, -⟩ := id hA
    obtain ⟨hB0, hB1, -, -⟩ := id hB
    obtain ⟨hC0, hC1, -, -⟩ := id hC
    obtain ⟨hN0, hN1, -, -, -⟩ := id hN
    go_wp2_with fail
    refine (CX.out rA _ hrA).mono ?_; rintro e w8 ⟨rfl, h8⟩
    have B8 : Below w.heap.size w w8 := ext_step B7 h8
    replace hA := hA.below h8
    replace hB := hB.below h8
    replace hC := hC.below h8
    replace hN := hN.below h8
    clear hA0 hA1 hB0 hB1 hC0 hC1
    clear hN0 hN1
    obtain ⟨hA0, hA1, -, -⟩ := id hA
    obtain ⟨hB0, hB1, -, -⟩ := id hB
    obtain ⟨hC0, hC1, -, -⟩ := id hC
    obtain ⟨hN0, hN1, -, -, -⟩ := id hN
    go_wp2_with fail
    go_ret
    exact ⟨rfl, B8⟩
  · simp only [Decidable.not_not] at hg
    by_cases ht : Two (txNum l)
    · have hd : decide (Fits (txNum l / 18446744073709551616)) = true := decide_eq_true ht
      have hok : okW l = true := by rw [okW, hg, decide_eq_true ht]; rfl
      obtain ⟨z, hz⟩ : ∃ z, readW l = z := ⟨_, rfl⟩
      have hz1 : txNum l = z := (readW_ok hok).symm.trans hz
      have CP : Hid (∀ W : World, Pows W → Calls Tryd.prog 27 #[.string s] W fun e w' => e = .returned (.tuple #[.agg #[.int .i64 ((z) / 18446744073709551616), .int .u64 ((z) % 18446744073709551616)], .bool true]) ∧ Below W.heap.size W w') := Lib.hid fun W h => (parseW_any s l hl W h (by omega)).mono fun e w' ⟨he, hb⟩ => ⟨by rw [he, hz, hok], hb⟩
      have CQ : Hid (∀ W : World, Calls Tryd.prog 28 #[.string s] W fun e w' => ∃ r, e = .returned (.tuple #[r, .bool true]) ∧ NumV w' r (txNum l) ∧ Below W.heap.size W w') := Lib.hid fun W => (parse2_any s l hl W (by omega)).mono fun e w' ⟨r, he, hn, hb⟩ => ⟨r, by rw [he, hg], hn, hb⟩
      have CW : Hid (∀ (r : Value) (W : World), NumV W r (txNum l) → Calls Tryd.prog 29 #[r] W fun e w' => e = .returned (.tuple #[.int .i64 (wordHi (txNum l)), .int .u64 (wordLo (txNum l)), .bool true]) ∧ Below W.heap.size W w') := Lib.hid fun r W h => (words_any r _ W 12 h (txNum_mag l) (by omega) (by omega)).mono fun e w' ⟨he, hb⟩ => ⟨by rw [he, hd], hb⟩
      rw [hz1] at CQ CW ht
      have CM := Lib.hid (numW_any z ht)
      have CC : Hid (∀ (r u : Value) (W : World), NumV W r z → NumV W u z → Calls Tryd.prog 18 #[r, u] W fun e w' => e = .returned (.int .i64 0) ∧ Below W.heap.size W w') := Lib.hid fun r u W h k => (cmp_any r u z z W 9 h k (two_mag ht) (two_mag ht) (by omega)).mono fun e w' ⟨he, hb⟩ => ⟨he.trans (by rw [cmpI_self]), hb⟩
      have hzl : textI z = l := by rw [← hz1]; exact good_text hg
      have CY : Hid (∀ W : World, Pows W → Calls Tryd.prog 26 #[.agg #[.int .i64 ((z) / 18446744073709551616), .int .u64 ((z) % 18446744073709551616)]] W fun e w' => e = .returned (.string s) ∧ Below W.heap.size W w') := Lib.hid fun W h => (textW_any z ht W h).mono fun e w' ⟨S, he, hS, hb⟩ => ⟨by rw [he, bytes_same (S := S) (T := s) (hS.trans (hzl.trans hl.symm))], hb⟩
      clear hg ht hd hok hz hz1 hl hzl
      have hA := AtP.new w (a / 18446744073709551616) (a % 18446744073709551616) 24
      have B0 := up1 w (.cells #[.int .i64 (a / 18446744073709551616), .int .u64 (a % 18446744073709551616)] 24)
      go_enter Tryd.func5, Tryd.ntmps5
      go_wp2_with fail
      refine (C0.out _ (hp.below B0)).mono ?_; rintro e w1 ⟨rfl, h1⟩
      have B1 : Below w.heap.size w w1 := ext_step B0 h1
      replace hA := hA.below h1
      obtain ⟨hA0, hA1, -, -⟩ := id hA
      go_wp2_with fail
      refine (CT.out _ (hp.below B1)).mono ?_; rintro e w2 ⟨rfl, h2⟩
      have B2 : Below w.heap.size w w2 := ext_step B1 h2
      replace hA := hA.below h2
      clear hA0 hA1
      go_wp2_with fail
      refine (CB.out _ (hp.below B2)).mono ?_; rintro e w3 ⟨rfl, h3⟩
      have B3 : Below w.heap.size w w3 := ext_step B2 h3
      replace hA := hA.below h3
      replace hA := hA.alloc (.cells #[.int .i64 (a / 18446744073709551616), .int .u64 (a % 18446744073709551616)] 24)
      have XB3 := ext_alloc B3 (.cells #[.int .i64 (a / 18446744073709551616), .int .u64 (a % 18446744073709551616)] 24)
      have hB := AtP.new w3 (a / 18446744073709551616) (a % 18446744073709551616) 24
      go_wp2_with fail
      refine (CP.out _ (hp.below XB3)).mono ?_; rintro e w4 ⟨rfl, h4⟩
      have B4 : Below w.heap.size w w4 := ext_step XB3 h4
      replace hA := hA.below h4
      replace hB := hB.below h4
      replace hA := hA.alloc (.cells #[.int .i64 (z / 18446744073709551616), .int .u64 (z % 18446744073709551616)] 24)
      replace hB := hB.alloc (.cells #[.int .i64 (z / 18446744073709551616), .int .u64 (z % 18446744073709551616)] 24)
      have XB4 := ext_alloc B4 (.cells #[.int .i64 (z / 18446744073709551616), .int .u64 (z % 18446744073709551616)] 24)
      have hC := AtP.new w4 (z / 18446744073709551616) (z % 18446744073709551616) 24
      go_wp2_with fail
      refine (CQ.out _).mono ?_; rintro e w5 ⟨r1, rfl, hr1, h5⟩
      have B5 : Below w.heap.size w w5 := ext_step XB4 h5
      replace hA := hA.below h5
      replace hB := hB.below h5
      replace hC := hC.below h5
      obtain ⟨s1, A1, n1, c1, rfl, hs1, -⟩ := hr1.form
      have hN := NumAt.new hr1 34
      replace hA := hA.alloc (.cells #[.bool s1, .slice A1 n1 c1] 34)
      replace hB := hB.alloc (.cells #[.bool s1, .slice A1 n1 c1] 34)
      replace hC := hC.alloc (.cells #[.bool s1, .slice A1 n1 c1] 34)
      have XB5 := ext_alloc B5 (.cells #[.bool s1, .slice A1 n1 c1] 34)
      obtain ⟨hN0, hN1, -, -, -⟩ := id hN
      go_wp2_with fail
      refine (CW.out _ _ hN.num).mono ?_; rintro e w6 ⟨rfl, h6⟩
      have B6 : Below w.heap.size w w6 := ext_step XB5 h6
      replace hA := hA.below h6
      replace hB := hB.below h6
      replace hC := hC.below h6
      replace hN := hN.below h6
      clear hN0 hN1
      obtain ⟨hA0, hA1, -, -⟩ := id hA
      obtain ⟨hB0, hB1, -, -⟩ := id hB
      obtain ⟨hC0, hC1, -, -⟩ := id hC
      obtain ⟨hN0, hN1, -, -, -⟩ := id hN
      go_wp2_with fail
      refine (CN.out _).mono ?_; rintro e w7 ⟨rA, rfl, hrA, h7⟩
      have B7 : Below w.heap.size w w7 := ext_step B6 h7
      replace hA := hA.below h7
      replace hB := hB.below h7
      replace hC := hC.below h7
      replace hN := hN.below h7
      clear hA0 hA1 hB0 hB1 hC0 hC1
      clear hN0 hN1
      obtain ⟨hA0, hA1, -, -⟩ := id hA
      obtain ⟨hB0, hB1, -, -⟩ := id hB
      obtain ⟨hC0, hC1, -, -⟩ := id hC
      obtain ⟨hN0, hN1, -, -, -⟩ := id hN
      go_wp2_with fail
      refine (CX.out rA _ hrA).mono ?_; rintro e w8 ⟨rfl, h8⟩
      have B8 : Below w.heap.size w w8 := ext_step B7 h8
      replace hA := hA.below h8
      replace hB := hB.below h8
      replace hC := hC.below h8
      replace hN := hN.below h8
      clear hA0 hA1 hB0 hB1 hC0 hC1
      clear hN0 hN1
      obtain ⟨hA0, hA1, -, -⟩ := id hA
      obtain ⟨hB0, hB1, -, -⟩ := id hB
      obtain ⟨hC0, hC1, -, -⟩ := id hC
      obtain ⟨hN0, hN1, -, -, -⟩ := id hN
      have hBL := B8
      clear hA hB hr1 hrA
      go_upto_region 14 with fail
      clear hA0 hA1 hB0 hB1 hC0 hC1
      clear hN0 hN1
      go_region_held3 (fun w' => w'.cell? ⟨w4.heap.size, 0, none⟩ = some (.int .i64 (z / 18446744073709551616)) ∧ w'.cell? ⟨w4.heap.size, 1, none⟩ = some (.int .u64 (z % 18446744073709551616)) ∧ w'.cell? ⟨w5.heap.size, 0, none⟩ = some (.bool s1) ∧ w'.cell? ⟨w5.heap.size, 1, none⟩ = some (.slice A1 n1 c1))
        (exact ⟨hC.c0, hC.c1, hN.c0, hN.c1⟩)
        (first
          | (go_at_call 13; refine (CM.out _).mono ?_; rintro e w10 ⟨rC, rfl, hrC, hq⟩; replace hC := hC.below ⟨hq.os, hq.tape, hq.output, hq.size, hq.block⟩; replace hN := hN.below ⟨hq.os, hq.tape, hq.output, hq.size, hq.block⟩; have hBL := ext_step hBL ⟨hq.os, hq.tape, hq.output, hq.size, hq.block⟩; obtain ⟨s2, A2, n2, c2, rfl, hs2, -⟩ := hrC.form; have hss : s1 = s2 := hs1.out.trans hs2.out.symm; subst hss)
          | (go_at_call 18; refine (CC.out _ _ _ (by exact hrC) (by exact hN.num)).mono ?_; rintro e w11 ⟨rfl, hq⟩; replace hC := hC.below ⟨hq.os, hq.tape, hq.output, hq.size, hq.block⟩; replace hN := hN.below ⟨hq.os, hq.tape, hq.output, hq.size, hq.block⟩; have hBL := ext_step hBL ⟨hq.os, hq.tape, hq.output, hq.size, hq.block⟩)
          | (go_at_call 26; refine (CY.out _ (hp.below (by exact hBL))).mono ?_; rintro e w12 ⟨rfl, hq⟩; replace hC := hC.below ⟨hq.os, hq.tape, hq.output, hq.size, hq.block⟩; replace hN := hN.below ⟨hq.os, hq.tape, hq.output, hq.size, hq.block⟩; have hBL := ext_step hBL ⟨hq.os, hq.tape, hq.output, hq.size, hq.block⟩))
      all_goals
        go_wp2_with fail
        go_ret
        exact ⟨rfl, hBL⟩
    · have hd : decide (Fits (txNum l / 18446744073709551616)) = false := decide_eq_false ht
      have hok : okW l = false := by rw [okW, hg, decide_eq_false ht]; rfl
      have CP : Hid (∀ W : World, Pows W → Calls Tryd.prog 27 #[.string s] W fun e w' => e = .returned (.tuple #[.agg #[.int .i64 0, .int .u64 0], .bool false]) ∧ Below W.heap.size W w') := Lib.hid fun W h => (parseW_any s l hl W h (by omega)).mono fun e w' ⟨he, hb⟩ => ⟨by rw [he, readW_no hok, hok]; rfl, hb⟩
      have CQ : Hid (∀ W : World, Calls Tryd.prog 28 #[.string s] W fun e w' => ∃ r, e = .returned (.tuple #[r, .bool true]) ∧ NumV w' r (txNum l) ∧ Below W.heap.size W w') := Lib.hid fun W => (parse2_any s l hl W (by omega)).mono fun e w' ⟨r, he, hn, hb⟩ => ⟨r, by rw [he, hg], hn, hb⟩
      have CW : Hid (∀ (r : Value) (W : World), NumV W r (txNum l) → Calls Tryd.prog 29 #[r] W fun e w' => e = .returned (.tuple #[.int .i64 (wordHi (txNum l)), .int .u64 (wordLo (txNum l)), .bool false]) ∧ Below W.heap.size W w') := Lib.hid fun r W h => (words_any r _ W 12 h (txNum_mag l) (by omega) (by omega)).mono fun e w' ⟨he, hb⟩ => ⟨by rw [he, hd], hb⟩
      clear hg ht hd hok hl
      have hA := AtP.new w (a / 18446744073709551616) (a % 18446744073709551616) 24
      have B0 := up1 w (.cells #[.int .i64 (a / 18446744073709551616), .int .u64 (a % 18446744073709551616)] 24)
      go_enter Tryd.func5, Tryd.ntmps5
      go_wp2_with fail
      refine (C0.out _ (hp.below B0)).mono ?_; rintro e w1 ⟨rfl, h1⟩
      have B1 : Below w.heap.size w w1 := ext_step B0 h1
      replace hA := hA.below h1
      obtain ⟨hA0, hA1, -, -⟩ := id hA
      go_wp2_with fail
      refine (CT.out _ (hp.below B1)).mono ?_; rintro e w2 ⟨rfl, h2⟩
      have B2 : Below w.heap.size w w2 := ext_step B1 h2
      replace hA := hA.below h2
      clear hA0 hA1
      go_wp2_with fail
      refine (CB.out _ (hp.below B2)).mono ?_; rintro e w3 ⟨rfl, h3⟩
      have B3 : Below w.heap.size w w3 := ext_step B2 h3
      replace hA := hA.below h3
      replace hA := hA.alloc (.cells #[.int .i64 (a / 18446744073709551616), .int .u64 (a % 18446744073709551616)] 24)
      have XB3 := ext_alloc B3 (.cells #[.int .i64 (a / 18446744073709551616), .int .u64 (a % 18446744073709551616)] 24)
      have hB := AtP.new w3 (a / 18446744073709551616) (a % 18446744073709551616) 24
      go_wp2_with fail
      refine (CP.out _ (hp.below XB3)).mono ?_; rintro e w4 ⟨rfl, h4⟩
      have B4 : Below w.heap.size w w4 := ext_step XB3 h4
      replace hA := hA.below h4
      replace hB := hB.below h4
      replace hA := hA.alloc (.cells #[.int .i64 0, .int .u64 0] 24)
      replace hB := hB.alloc (.cells #[.int .i64 0, .int .u64 0] 24)
      have XB4 := ext_alloc B4 (.cells #[.int .i64 0, .int .u64 0] 24)
      have hC := AtP.new w4 0 0 24
      go_wp2_with fail
      refine (CQ.out _).mono ?_; rintro e w5 ⟨r1, rfl, hr1, h5⟩
      have B5 : Below w.heap.size w w5 := ext_step XB4 h5
      replace hA := hA.below h5
      replace hB := hB.below h5
      replace hC := hC.below h5
      obtain ⟨s1, A1, n1, c1, rfl, hs1, -⟩ := hr1.form
      have hN := NumAt.new hr1 34
      replace hA := hA.alloc (.cells #[.bool s1, .slice A1 n1 c1] 34)
      replace hB := hB.alloc (.cells #[.bool s1, .slice A1 n1 c1] 34)
      replace hC := hC.alloc (.cells #[.bool s1, .slice A1 n1 c1] 34)
      have XB5 := ext_alloc B5 (.cells #[.bool s1, .slice A1 n1 c1] 34)
      obtain ⟨hN0, hN1, -, -, -⟩ := id hN
      go_wp2_with fail
      refine (CW.out _ _ hN.num).mono ?_; rintro e w6 ⟨rfl, h6⟩
      have B6 : Below w.heap.size w w6 := ext_step XB5 h6
      replace hA := hA.below h6
      replace hB := hB.below h6
      replace hC := hC.below h6
      replace hN := hN.below h6
      clear hN0 hN1
      obtain ⟨hA0, hA1, -, -⟩ := id hA
      obtain ⟨hB0, hB1, -, -⟩ := id hB
      obtain ⟨hC0, hC1, -, -⟩ := id hC
      obtain ⟨hN0, hN1, -, -, -⟩ := id hN
      go_wp2_with fail
      refine (CN.out _).mono ?_; rintro e w7 ⟨rA, rfl, hrA, h7⟩
      have B7 : Below w.heap.size w w7 := ext_step B6 h7
      replace hA := hA.below h7
      replace hB := hB.below h7
      replace hC := hC.below h7
      replace hN := hN.below h7
      clear hA0 hA1 hB0 hB1 hC0 hC1
      clear hN0 hN1
      obtain ⟨hA0, hA1, -, -⟩ := id hA
      obtain ⟨hB0, hB1, -, -⟩ := id hB
      obtain ⟨hC0, hC1, -, -⟩ := id hC
      obtain ⟨hN0, hN1, -, -, -⟩ := id hN
      go_wp2_with fail
      refine (CX.out rA _ hrA).mono ?_; rintro e w8 ⟨rfl, h8⟩
      have B8 : Below w.heap.size w w8 := ext_step B7 h8
      replace hA := hA.below h8
      replace hB := hB.below h8
      replace hC := hC.below h8
      replace hN := hN.below h8
      clear hA0 hA1 hB0 hB1 hC0 hC1
      clear hN0 hN1
      obtain ⟨hA0, hA1, -, -⟩ := id hA
      obtain ⟨hB0, hB1, -, -⟩ := id hB
      obtain ⟨hC0, hC1, -, -⟩ := id hC
      obtain ⟨hN0, hN1, -, -, -⟩ := id hN
      go_wp2_with fail
      go_ret
      exact ⟨rfl, B8⟩
end Go.Proofs.YtedojpblfmkjeaaDoor
