/- What wide.Parse answers: the number whose text it is, and whether there is one; behind the table of powers as the program lays it. -/
import Derived.Test.YtedojpblfmkjeaaDoorTextW
import Derived.Deep.RegionWith
namespace Go.Proofs.YtedojpblfmkjeaaDoor
open Go.RowKit

/-- The number read, or zero. -/
def readW (l : List UInt8) : Int := if okW l then txNum l else 0
theorem readW_ok {l : List UInt8} (h : okW l = true) : readW l = txNum l := if_pos h
theorem readW_no {l : List UInt8} (h : okW l = false) : readW l = 0 := by rw [readW, h]; rfl
theorem ascii {b : UInt8} : 0 ≤ (b.toNat : Int) ∧ (b.toNat : Int) ≤ 255 := by have := b.toNat_lt; omega

theorem bytes_same {S T : ByteArray} (h : S.data.toList = T.data.toList) : S = T := by
  cases S; cases T; simpa using h
theorem bytes_other {S T : ByteArray} (h : S.data.toList ≠ T.data.toList) : (S.toList == T.toList) = false := by
  rw [ByteArray.toList_eq, ByteArray.toList_eq]; simpa using h

set_option maxRecDepth 100000 in
set_option maxHeartbeats 2000000 in
theorem parseW_any (S : ByteArray) (l : List UInt8) (hl : S.data.toList = l) (w : World) (hp : Pows w) (hsz : S.size ≤ 140737488355328) :
    Calls Tryd.prog 27 #[.string S] w fun e w' => e = .returned (.tuple #[.agg #[.int .i64 ((readW l) / 18446744073709551616), .int .u64 ((readW l) % 18446744073709551616)], .bool (okW l)]) ∧ Below w.heap.size w w' := by
  by_cases h40 : 40 < S.size
  · have hno : okW l = false := by
      cases h : okW l with
      | false => rfl
      | true => have := okW_len h; rw [← bytes_len hl] at this; omega
    rw [readW_no hno, hno]
    clear hp hno
    go_enter Tryd.func27, Tryd.ntmps27
    go_wp2_with fail
    exact bodyPost_ret (v := .tuple #[.agg #[.int .i64 0, .int .u64 0], .bool false]) (by simp [results, Tryd.results27, go_sem]) rfl ⟨rfl, up1 _ _⟩
  · have cc := fun (W : World) => Tryd.strings_CutPrefix S ⟨#[45]⟩ W
    rw [show (⟨#[45]⟩ : ByteArray).data.toList = [45] from rfl, hl, hasPrefix_minus, trimPrefix_minus] at cc
    obtain ⟨R, hR⟩ : ∃ R : ByteArray, R = ⟨(txBody l).toArray⟩ := ⟨_, rfl⟩
    have hRl : R.data.toList = txBody l := by rw [hR]
    rw [← hR] at cc
    have CC := Lib.hid cc
    have HRL := Lib.hid hRl
    have HL := Lib.hid hl
    have HRS : Hid (R.size = (txBody l).length) := Lib.hid (bytes_len hRl)
    have hRlt : R.size ≤ 140737488355328 := by
      have : (txBody l).length ≤ l.length := by unfold txBody; split <;> simp
      rw [HRS.out]; rw [bytes_len hl] at hsz; omega
    clear cc hR hRl hl
    go_enter Tryd.func27, Tryd.ntmps27
    go_wp2_with fail
    refine (CC.out _).mono ?_; rintro e w1 ⟨rfl, rfl⟩
    go_wp2_with fail
    go_loopw [19] (fun i wr => ∃ k : Nat, k ≤ R.size ∧ i = .int .i64 (k : Int) ∧ AtP wr w.heap.size 0 0 ∧ AtP wr (w.heap.size + 1) (around (wrapFold ((txBody l).take k)) / 18446744073709551616) (around (wrapFold ((txBody l).take k)) % 18446744073709551616) ∧ Below w.heap.size w wr) (fun i _ => R.size - (intOf i).toNat)
    case atStart => exact ⟨0, Nat.zero_le _, rfl, (AtP.two w 0 0 0 0 24).1, (AtP.two w 0 0 0 0 24).2, up2 _ _ _⟩
    case round =>
      obtain ⟨k, hk, rfl, hA, hT, hbel⟩ := hrel
      by_cases hks : k < R.size
      · have hkl : k < (txBody l).length := by rw [← HRS.out]; exact hks
        have hg : R[k] = (txBody l)[k] := bytes_get HRL.out hks hkl
        have ca := fun (ch : UInt8) (W : World) => appended_any (around (wrapFold ((txBody l).take k))) (ch.toNat : Int) W
        have HF := Lib.hid (wrapFold_take hkl)
        generalize hch : (txBody l)[k] = ch at *
        clear hch
        replace ca := ca ch
        rw [around_ten, ← HF.out] at ca
        have CA := Lib.hid ca
        clear ca HF
        have hc2 := @ascii ch
        go_upto_region 8 with fail
        obtain ⟨r0, r1, p0, p1⟩ := id hA
        obtain ⟨t0, t1, q0, q1⟩ := id hT
        go_region_with (first
          | (go_at_call 51; refine (CA.out _).mono ?_; rintro e w1 ⟨rfl, hq1⟩; have hb1 : Below wr.heap.size wr w1 := ⟨hq1.os, hq1.tape, hq1.output, hq1.size, hq1.block⟩; clear hq1; have hA1 := hA.below hb1; have hT1 := hT.below hb1; have hB1 := ext_step hbel hb1; obtain ⟨a0, a1, a2, a3⟩ := id hA1; obtain ⟨b0, b1, b2, b3⟩ := id hT1))
        all_goals
          go_wp2_with fail
          go_roundw
          case rel => exact ⟨k + 1, hks, by go_num, (hA1.other (by omega) _ _).other (by omega) _ _, hT1.set_ _ _, ext_put (ext_put hB1 (Nat.le_succ _) _) (Nat.le_succ _) _⟩
          case measure => simp [intOf]; omega
      · have hka : (txBody l).take k = txBody l := by rw [List.take_of_length_le]; rw [← HRS.out]; omega
        rw [hka] at hT
        have hkk : ¬ (k : Int) < (R.size : Int) := by omega
        clear hka
        have HT2 := Lib.hid (textW_any (foldW l) (foldW_two l))
        cases hN : txNeg l with
        | false =>
          have hfw : foldW l = around (wrapFold (txBody l)) := by rw [foldW, hN]; rfl
          rw [← hfw] at hT
          have HP := Lib.hid (hp.below hbel)
          obtain ⟨r0, r1, p0, p1⟩ := id hA
          obtain ⟨t0, t1, q0, q1⟩ := id hT
          clear hfw
          have hA2 := hA
          have hT2 := hT
          have hbel2 := hbel
          go_wp2_with fail
          refine (HT2.out _ HP.out).mono ?_; rintro e w3 ⟨S', rfl, hS', hb3⟩
          have HB3 := ext_step hbel2 hb3
          have hA3 := hA2.below hb3
          have hT3 := hT2.below hb3
          obtain ⟨c0, c1, c2, c3⟩ := id hA3
          obtain ⟨d0, d1, d2, d3⟩ := id hT3
          cases hok : okW l with
          | true =>
            have hSS : S' = S := bytes_same (hS'.trans (((okW_iff l).2 hok).trans HL.out.symm))
            subst hSS
            replace hok := Lib.hid hok
            go_wp2_with fail
            exact bodyPost_ret (v := .tuple #[.agg #[.int .i64 ((foldW l) / 18446744073709551616), .int .u64 ((foldW l) % 18446744073709551616)], .bool true]) (by simp [results, Tryd.results27, go_sem, c0, c1]) rfl ⟨ret_wb (by rw [readW_ok hok.out, foldW_ok hok.out]) (by rw [readW_ok hok.out, foldW_ok hok.out]) hok.out.symm, ext_put (ext_put HB3 (Nat.le_refl _) _) (Nat.le_refl _) _⟩
          | false =>
            have hSS : (S'.toList == S.toList) = false := bytes_other fun e => by
              rw [hS', HL.out] at e
              rw [(okW_iff l).1 e] at hok
              exact absurd hok (by simp)
            replace hok := Lib.hid hok
            go_wp2_with fail
            exact bodyPost_ret (v := .tuple #[.agg #[.int .i64 0, .int .u64 0], .bool false]) (by simp [results, Tryd.results27, go_sem, c0, c1]) rfl ⟨ret_wb (by rw [readW_no hok.out]; rfl) (by rw [readW_no hok.out]; rfl) hok.out.symm, ext_put (ext_put HB3 (Nat.le_refl _) _) (Nat.le_refl _) _⟩
        | true =>
          have hfw : foldW l = around (-wrapFold (txBody l)) := by rw [foldW, hN]; rfl
          have cn := fun W => negated_any (around (wrapFold (txBody l))) W
          rw [around_neg, ← hfw] at cn
          have CN := Lib.hid cn
          obtain ⟨r0, r1, p0, p1⟩ := id hA
          obtain ⟨t0, t1, q0, q1⟩ := id hT
          clear cn hfw
          go_wp2_with fail
          refine (CN.out _).mono ?_; rintro e w2 ⟨rfl, hb2⟩
          have hA1 := hA.below hb2
          have hT1 := hT.below hb2
          have hbel1 := ext_step hbel hb2
          obtain ⟨a0, a1, a2, a3⟩ := id hA1
          obtain ⟨b0, b1, b2, b3⟩ := id hT1
          have hA2 := (hA1.other (b' := w.heap.size + 1) (by omega) 0 (.int .i64 (foldW l / 18446744073709551616))).other (b' := w.heap.size + 1) (by omega) 1 (.int .u64 (foldW l % 18446744073709551616))
          have hT2 := hT1.set_ (foldW l / 18446744073709551616) (foldW l % 18446744073709551616)
          have hbel2 : Below w.heap.size w ((w2.setCell ⟨w.heap.size + 1, 0, none⟩ (.int .i64 (foldW l / 18446744073709551616))).setCell ⟨w.heap.size + 1, 1, none⟩ (.int .u64 (foldW l % 18446744073709551616))) := ext_put (ext_put hbel1 (Nat.le_succ _) _) (Nat.le_succ _) _
          have HP := Lib.hid (hp.below hbel2)
          obtain ⟨x0, x1, x2, x3⟩ := id hT2
          go_wp2_with fail
          refine (HT2.out _ HP.out).mono ?_; rintro e w3 ⟨S', rfl, hS', hb3⟩
          have HB3 := ext_step hbel2 hb3
          have hA3 := hA2.below hb3
          have hT3 := hT2.below hb3
          obtain ⟨c0, c1, c2, c3⟩ := id hA3
          obtain ⟨d0, d1, d2, d3⟩ := id hT3
          cases hok : okW l with
          | true =>
            have hSS : S' = S := bytes_same (hS'.trans (((okW_iff l).2 hok).trans HL.out.symm))
            subst hSS
            replace hok := Lib.hid hok
            go_wp2_with fail
            exact bodyPost_ret (v := .tuple #[.agg #[.int .i64 ((foldW l) / 18446744073709551616), .int .u64 ((foldW l) % 18446744073709551616)], .bool true]) (by simp [results, Tryd.results27, go_sem, c0, c1]) rfl ⟨ret_wb (by rw [readW_ok hok.out, foldW_ok hok.out]) (by rw [readW_ok hok.out, foldW_ok hok.out]) hok.out.symm, ext_put (ext_put HB3 (Nat.le_refl _) _) (Nat.le_refl _) _⟩
          | false =>
            have hSS : (S'.toList == S.toList) = false := bytes_other fun e => by
              rw [hS', HL.out] at e
              rw [(okW_iff l).1 e] at hok
              exact absurd hok (by simp)
            replace hok := Lib.hid hok
            go_wp2_with fail
            exact bodyPost_ret (v := .tuple #[.agg #[.int .i64 0, .int .u64 0], .bool false]) (by simp [results, Tryd.results27, go_sem, c0, c1]) rfl ⟨ret_wb (by rw [readW_no hok.out]; rfl) (by rw [readW_no hok.out]; rfl) hok.out.symm, ext_put (ext_put HB3 (Nat.le_refl _) _) (Nat.le_refl _) _⟩
end Go.Proofs.YtedojpblfmkjeaaDoor
