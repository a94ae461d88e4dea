/- The text of a whole number, walked. -/
import Derived.Test.YtedojpblfmkjeaaDoorWide
import Derived.Test.YtedojpblfmkjeaaDoorRefE
import Derived.Test.YtedojpblfmkjeaaDoorRefH
import Derived.Test.YtedojpblfmkjeaaDoorDigits
import Derived.Laws.BytesString
import Derived.Deep.RegionHeld3
import Derived.Deep.CutBlock
import Derived.Deep.DeepCutAuto
namespace Go.Proofs.YtedojpblfmkjeaaDoor
open Go.RowKit

/-- How long a text in a slot is. -/
def strLen : Value → Nat
  | .string S => S.size
  | _ => 0
/-- One byte as a text. -/
theorem byte_text (w : World) (z : Int) : (convert 59 9 (.slice (some ⟨w.heap.size, 0, none⟩) 1 1)).run Tryd.prog (w.alloc (.cells #[.int .u8 z] 5)) =
    .ok (.string ⟨#[UInt8.ofNat z.toNat]⟩) (w.alloc (.cells #[.int .u8 z] 5)) := by
  rw [run_convert_bytes_string _ _ _ 5 _ _ _ Tryd.underlying59 Tryd.underlying5 Tryd.underlying9]
  rw [run_bytesToString _ _ _ _ [z]]
  · rfl
  · have e : (w.alloc (.cells #[.int .u8 z] 5)).cell? ((⟨w.heap.size, 0, none⟩ : Addr).add 0) = some (.int .u8 z) := World.cell?_alloc_new (w := w) _ _ 0
    simp [loadCells, loadCellsFrom, e]
/-- What is answered: a text, in whatever memory. -/
def GivesT (w : World) (l : List UInt8) (e : Ending) (w' : World) : Prop := ∃ S : ByteArray, e = .returned (.string S) ∧ S.data.toList = l ∧ Below w.heap.size w w'

set_option maxRecDepth 100000 in
set_option maxHeartbeats 8000000 in
theorem text2_any (r : Value) (x : Int) (w : World) (L : Nat) (hx : NumV w r x) (lx : mag x < 65536 ^ L) (h5 : 5 ≤ L) (hL : L ≤ 900) :
    Calls Tryd.prog 30 #[r] w (GivesT w (textI x)) := by
  obtain ⟨s, A, n, c, rfl, hs, ha⟩ := hx.form
  have N0 := NumAt.new hx 34
  have hbw : Below w.heap.size w (w.alloc (.cells #[.bool s, .slice A n c] 34)) := below_new w _
  have HBW := Lib.hid hbw
  have HX := Lib.hid lx
  clear hbw hx ha lx
  go_enter Tryd.func30, Tryd.ntmps30
  go_upto_region 1 with fail
  change Code.wp _ _ _ _ (w.alloc (.cells #[.bool s, .slice A n c] 34))
  generalize w.alloc (.cells #[.bool s, .slice A n c] 34) = W at *
  obtain ⟨k0, k1, k2, k3, k4⟩ := id N0
  go_wp2_with fail
  refine (of_any 10 W (by decide)).mono ?_; rintro e w1 ⟨r1, rfl, hr1, hq1⟩
  obtain ⟨t1, A1, n1, c1, rfl, -, -⟩ := hr1.form
  have V1 := NumAt.new hr1 34
  have N1 := (N0.below hq1).alloc (.cells #[.bool t1, .slice A1 n1 c1] 34)
  have hm : NumV (w1.alloc (.cells #[.bool t1, .slice A1 n1 c1] 34)) (.agg #[.bool false, .slice A n c]) (mag x) := by
    obtain ⟨v, e, hn⟩ := N1.num
    injection e with e
    have e2 := congrArg (fun a : Array Value => a[1]?) e
    simp at e2
    subst e2
    have hz : 0 ≤ mag x := by unfold mag; split <;> omega
    have hmm : mag (mag x) = mag x := mag_pos (by omega)
    exact ⟨_, by rw [decide_eq_false (by omega)], by rw [hmm]; exact hn⟩
  have E1 : Below w.heap.size w (w1.alloc (.cells #[.bool t1, .slice A1 n1 c1] 34)) := ext_alloc (ext_step HBW.out hq1) _
  have zz := N0.lt
  have zq := hq1.size
  clear k0 k1 k2 k3 k4 N0 HBW hr1 hq1
  go_upto_region 3 with fail
  generalize hgT : w1.heap.size = gT at *
  have HGT := Lib.hid hgT
  have hW1 : (w1.alloc (.cells #[.bool t1, .slice A1 n1 c1] 34)).heap.size = gT + 1 := by rw [World.size_alloc, hgT]
  have HW1 := Lib.hid hW1
  clear hgT hW1
  generalize w1.alloc (.cells #[.bool t1, .slice A1 n1 c1] 34) = W1 at *
  obtain ⟨k0, k1, k2, k3, k4⟩ := id N1
  go_wp2_with fail
  have V2 := V1.alloc (.cells #[.bool false, .slice A n c] 34)
  have N2 := N1.alloc (.cells #[.bool false, .slice A n c] 34)
  have L2 := NumAt.new hm 34
  have E2 := ext_alloc E1 (.cells #[.bool false, .slice A n c] 34)
  generalize W1.heap.size = gL at *
  go_loopw [4] (fun v wr => ∃ (S : ByteArray) (l : List UInt8) (left : Nat) (b' : Bool) (A' : Option Addr) (n' c' : Nat), v = .string S ∧ Hid (S.data.toList = l) ∧ Digiting x.natAbs left l ∧ l.length ≤ 5 * L + 1 ∧
      NumAt wr gL b' A' n' c' (left : Int) ∧ NumAt wr w.heap.size s A n c x ∧ NumAt wr gT t1 A1 n1 c1 10 ∧ Below w.heap.size w wr) (fun v _ => 5 * L + 1 - strLen v)
  case atStart => exact ⟨_, [], x.natAbs, false, A, n, c, rfl, Lib.hid rfl, Digiting.start _, by simp, by rw [mag_cast]; exact L2, N2, V2, E2⟩
  case round =>
    obtain ⟨S, l, left, b', A', n', c', rfl, hS, hdig, hll, LL, NN, TT, EE⟩ := hrel
    obtain ⟨k0, k1, k2, k3, k4⟩ := id LL
    have hsg := k4.sign
    by_cases h0 : left = 0
    · have hn0 : n' = 0 := hsg.2.2 (by omega)
      subst hn0
      have HD := Lib.hid hdig
      obtain ⟨m0, m1, m2, m3, m4⟩ := id NN
      have hms := m4.sign
      have HMS := Lib.hid hms.1
      clear hdig hsg hms
      cases hl : l with
      | nil =>
        have he : S.toList.isEmpty = true := by rw [ByteArray.toList_eq, hS.out, hl]; rfl
        have hx0 : x = 0 := by
          rcases Int.lt_or_le 0 (x.natAbs : Int) with k | k
          · exact absurd (HD.out.done h0 (by omega)) (by rw [hl]; exact digits_ne _)
          · omega
        have HX0 := Lib.hid hx0
        clear hx0 h0 hl
        go_wp2_with fail
        go_ret
        exact ⟨_, rfl, by rw [HX0.out, textI_pos (by omega)]; exact digits_zero.symm, EE⟩
      | cons y ys =>
        have he : S.toList.isEmpty = false := by rw [ByteArray.toList_eq, hS.out, hl]; rfl
        have hx0 : 0 < x.natAbs := HD.out.pos (by rw [hl]; simp)
        have hdd := HD.out.done h0 hx0
        have HDD := Lib.hid hdd
        have HX0 := Lib.hid hx0
        have hlen : S.size = l.length := by rw [← hS.out]; rfl
        clear hx0 h0 hl hdd
        cases s with
        | true =>
          have hneg : x < 0 := by have := HMS.out; simpa using this.symm
          have HN := Lib.hid hneg
          clear hneg
          go_wp2_with fail
          go_ret
          exact ⟨_, rfl, by rw [textI_neg HN.out, HDD.out, ByteArray.data_append, Array.toList_append, hS.out]; rfl, EE⟩
        | false =>
          have hneg : ¬ x < 0 := by have := HMS.out; simpa using this.symm
          have HN := Lib.hid hneg
          clear hneg
          go_wp2_with fail
          go_ret
          exact ⟨_, rfl, by rw [hS.out, textI_pos (by have := HN.out; omega), HDD.out], EE⟩
    · have hlt : (left : Int) < 65536 ^ L := by
        have := hdig.le
        have := mag_cast x
        have := HX.out
        omega
      have hl0 : ¬ n' = 0 := fun k => h0 (by have := hsg.2.1 k; omega)
      have hpos : 0 < left := by omega
      have hst := hdig.step hpos
      have hsh := hdig.short hpos (L := L) (by have := mag_cast x; have := HX.out; have e : ((65536 ^ L : Nat) : Int) = (65536 : Int) ^ L := (by simp); omega)
      have hml : mag (left : Int) < 65536 ^ L := by rw [mag_pos (by omega)]; exact hlt
      have hdv : divI (left : Int) 10 false = ((left / 10 : Nat) : Int) := by show (left : Int) / 10 = _; omega
      have h10 : (10 : Int) < 65536 ^ L := by have := pow_le h5; rw [pow5] at this; omega
      have HML := Lib.hid hml; have HDV := Lib.hid hdv; have H10 := Lib.hid h10; have HST := Lib.hid hst
      obtain ⟨p0, p1, p2, p3, p4⟩ := id TT
      clear hsg h0 hlt hml hdv h10 hst hdig
      go_wp2_with fail
      refine (divN_any _ _ (left : Int) 10 false wr L k4 p4 HML.out (by omega) H10.out (by omega)).mono ?_; rintro e w2 ⟨r2, rfl, hr2, hq2⟩
      rw [HDV.out] at hr2
      obtain ⟨s2, A2, n2, c2, rfl, -, -⟩ := hr2.form
      have Q2 := NumAt.new hr2 34
      have L3 := (LL.below hq2).alloc (.cells #[.bool s2, .slice A2 n2 c2] 34)
      have N3 := (NN.below hq2).alloc (.cells #[.bool s2, .slice A2 n2 c2] 34)
      have T3 := (TT.below hq2).alloc (.cells #[.bool s2, .slice A2 n2 c2] 34)
      have E3 := ext_alloc (ext_step EE hq2) (.cells #[.bool s2, .slice A2 n2 c2] 34)
      have z1 := LL.lt
      have z2 := hq2.size
      clear hr2 hq2 LL NN TT EE k0 k1 k2 k3 k4 p0 p1 p2 p3 p4
      go_upto_region 6 with fail
      have hzq : (w2.alloc (.cells #[.bool s2, .slice A2 n2 c2] 34)).heap.size = w2.heap.size + 1 := World.size_alloc ..
      generalize w2.heap.size = gQ at *
      generalize w2.alloc (.cells #[.bool s2, .slice A2 n2 c2] 34) = W3 at *
      obtain ⟨k0, k1, k2, k3, k4⟩ := id L3
      obtain ⟨l0, l1, l2, l3, l4⟩ := id Q2
      obtain ⟨p0, p1, p2, p3, p4⟩ := id T3
      have b1 : mag (((left / 10 : Nat) : Int) * 10) < 65536 ^ L := by
        have := HML.out
        rw [mag_pos (by omega)] at this ⊢
        omega
      have b2 : mag (-(((left / 10 : Nat) : Int) * 10)) < 65536 ^ L := by
        have e : mag (-(((left / 10 : Nat) : Int) * 10)) = mag (((left / 10 : Nat) : Int) * 10) := by unfold mag; split <;> split <;> omega
        rw [e]; exact b1
      have b0 : mag ((left / 10 : Nat) : Int) < 65536 ^ L := by
        have := HML.out
        rw [mag_pos (by omega)] at this ⊢
        omega
      have b3 : mag (10 : Int) < 65536 ^ L := H10.out
      have hsum : (left : Int) + -(((left / 10 : Nat) : Int) * 10) = ((left % 10 : Nat) : Int) := by omega
      have b4 : mag ((left % 10 : Nat) : Int) < 65536 ^ L := by
        have := H10.out
        rw [mag_pos (by omega)]
        omega
      have B0 := Lib.hid b0; have B1 := Lib.hid b1; have B2 := Lib.hid b2; have B3 := Lib.hid b3; have B4 := Lib.hid b4; have HY := Lib.hid hsum; have ZQ := Lib.hid hzq
      clear b0 b1 b2 b3 b4 hsum hzq
      go_cut [7] (fun d wx => d = .int .i64 ((left % 10 : Nat) : Int) ∧ Below W3.heap.size W3 wx)
      case first =>
        go_region_held3 (fun w' => w'.cell? ⟨gL, 0, none⟩ = some (.bool b') ∧ w'.cell? ⟨gL, 1, none⟩ = some (.slice A' n' c') ∧ w'.cell? ⟨gQ, 0, none⟩ = some (.bool s2) ∧ w'.cell? ⟨gQ, 1, none⟩ = some (.slice A2 n2 c2) ∧ w'.cell? ⟨gT, 0, none⟩ = some (.bool t1) ∧ w'.cell? ⟨gT, 1, none⟩ = some (.slice A1 n1 c1))
          ((first | exact ⟨L3.c0, L3.c1, Q2.c0, Q2.c1, T3.c0, T3.c1⟩ | exact ⟨L4.c0, L4.c1, Q4.c0, Q4.c1, T4.c0, T4.c1⟩ | exact ⟨L5.c0, L5.c1, Q5.c0, Q5.c1, T5.c0, T5.c1⟩ | exact ⟨L6.c0, L6.c1, Q6.c0, Q6.c1, T6.c0, T6.c1⟩ | exact ⟨L7.c0, L7.c1, Q7.c0, Q7.c1, T7.c0, T7.c1⟩))
          (first
            | (go_at_call 19; refine (mulN_any _ _ ((left / 10 : Nat) : Int) 10 _ L (by exact Q2.num) (by exact T3.num) B0.out B3.out (by omega)).mono ?_; rintro e w4 ⟨r4, rfl, hr4, hq4⟩; have L4 := L3.below (below_undrew hq4); have Q4 := Q2.below (below_undrew hq4); have T4 := T3.below (below_undrew hq4); have e4 : Below W3.heap.size W3 w4 := below_undrew hq4)
            | (go_at_call 16; refine (neg_any _ (((left / 10 : Nat) : Int) * 10) _ L (by exact hr4) B1.out (by omega)).mono ?_; rintro e w5 ⟨r5, rfl, hr5, hq5⟩; have L5 := L4.below hq5; have Q5 := Q4.below hq5; have T5 := T4.below hq5; have e5 : Below W3.heap.size W3 w5 := ext_step e4 hq5)
            | (go_at_call 15; refine (addN_any _ _ (left : Int) (-(((left / 10 : Nat) : Int) * 10)) _ L (by exact L5.num) (by exact hr5) HML.out B2.out (by omega)).mono ?_; rintro e w6 ⟨r6, rfl, hr6, hq6⟩; have L6 := L5.below hq6; have Q6 := Q5.below hq6; have T6 := T5.below hq6; have e6 : Below W3.heap.size W3 w6 := ext_step e5 hq6; rw [HY.out] at hr6)
            | (go_at_call 12; refine (long_any _ ((left % 10 : Nat) : Int) _ L (by exact hr6) B4.out).mono ?_; rintro e w7 ⟨lv, rfl, hlv, hq7⟩; have L7 := L6.below hq7; have Q7 := Q6.below hq7; have T7 := T6.below hq7; have e7 : Below W3.heap.size W3 w7 := ext_step e6 hq7))
        all_goals
          go_wp2_with fail
          go_meet
          have hlf : Fits ((left % 10 : Nat) : Int) := by unfold Fits; omega
          exact ⟨by rw [hlv hlf], e7⟩
      case rest =>
        obtain ⟨rfl, hB⟩ := hcut
        have L4 := L3.below hB
        have Q4 := Q2.below hB
        have N4 := N3.below hB
        have T4 := T3.below hB
        have E4 := ext_step E3 hB
        clear L3 Q2 N3 T3 E3 hB k0 k1 k2 k3 k4 l0 l1 l2 l3 l4 p0 p1 p2 p3 p4
        generalize hd : left % 10 = d at *
        have hbt := byte_text wc (48 + (d : Int))
        have hsz : S.size = l.length := by rw [← hS.out]; rfl
        go_upto_region 8 with fail
        have L5 := L4.alloc (.cells #[.int .u8 (48 + (d : Int))] 5)
        have N5 := N4.alloc (.cells #[.int .u8 (48 + (d : Int))] 5)
        have Q5 := Q4.alloc (.cells #[.int .u8 (48 + (d : Int))] 5)
        have T5 := T4.alloc (.cells #[.int .u8 (48 + (d : Int))] 5)
        have E5 := ext_alloc E4 (.cells #[.int .u8 (48 + (d : Int))] 5)
        generalize wc.alloc (.cells #[.int .u8 (48 + (d : Int))] 5) = W5 at *
        obtain ⟨k0, k1, k2, k3, k4⟩ := id L5
        obtain ⟨l0, l1, l2, l3, l4⟩ := id Q5
        go_wp2_with fail
        go_round
        case rel =>
          have y1 : w.heap.size ≠ gL := by have := HW1.out; omega
          have y2 : gT ≠ gL := by have := HW1.out; omega
          have y3 : w.heap.size ≤ gL := by have := HW1.out; omega
          refine ⟨_, (48 + UInt8.ofNat d) :: l, left / 10, s2, A2, n2, c2, rfl, Lib.hid ?_, ?_, ?_, L5.set_ l4, N5.put L5 y1 _ _ _ _, T5.put L5 y2 _ _ _ _, ext_put (ext_put E5 (by dsimp only; omega) _) (by dsimp only; omega) _⟩
          · rw [ByteArray.data_append, Array.toList_append, hS.out]; rfl
          · have := HST.out; rw [UInt8.ofNat_add] at this; exact this
          · simp only [List.length_cons]; omega
        case measure =>
          simp only [strLen, ByteArray.size_append']
          have : (ByteArray.mk #[48 + UInt8.ofNat d]).size = 1 := rfl
          omega
end Go.Proofs.YtedojpblfmkjeaaDoor
