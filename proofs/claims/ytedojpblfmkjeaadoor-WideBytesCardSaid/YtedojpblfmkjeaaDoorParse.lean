/- A text read as a whole number, walked. -/
import Derived.Test.YtedojpblfmkjeaaDoorText
import Derived.Deep.RegionWith
namespace Go.Proofs.YtedojpblfmkjeaaDoor
open Go.RowKit

/-! what a text says -/
def isDig (b : UInt8) : Bool := decide (48 ≤ b.toNat) && decide (b.toNat ≤ 57)
def digNat (l : List UInt8) : Nat := l.foldl (fun n b => n * 10 + (b.toNat - 48)) 0
def txNeg (l : List UInt8) : Bool := match l with | b :: _ => b.toNat == 45 | [] => false
def txBody (l : List UInt8) : List UInt8 := if txNeg l then l.tail else l
def txHead (t : List UInt8) (neg : Bool) : Bool := decide (0 < t.length) && decide (t.length ≤ 40) && !((match t with | b :: _ => (b.toNat : Int) == 48 | [] => false) && (decide (1 < t.length) || neg))
def txGood (l : List UInt8) : Bool := txHead (txBody l) (txNeg l) && (txBody l).all isDig
def txNum (l : List UInt8) : Int := if txGood l then (if txNeg l then -(digNat (txBody l) : Int) else (digNat (txBody l) : Int)) else 0
def AsParse (l : List UInt8) (w : World) (e : Ending) (w' : World) : Prop := ∃ r, e = .returned (.tuple #[r, .bool (txGood l)]) ∧ NumV w' r (txNum l) ∧ Below w.heap.size w w'
theorem AsParse.no {l : List UInt8} {w w' : World} (h : txGood l = false) (hb : Below w.heap.size w w') : AsParse l w (.returned (.tuple #[.agg #[.bool false, .slice none 0 0], .bool false])) w' :=
  ⟨_, by rw [h], by rw [txNum, h]; exact zero_num _, hb⟩
theorem digNat_lt {l : List UInt8} (h : l.all isDig = true) : digNat l < 10 ^ l.length := by
  have key : ∀ (l : List UInt8) (n m : Nat), l.all isDig = true → n < 10 ^ m → l.foldl (fun n b => n * 10 + (b.toNat - 48)) n < 10 ^ (m + l.length) := by
    intro l
    induction l with
    | nil => intro n m _ h; exact h
    | cons b t ih =>
      intro n m h hn
      simp only [List.all_cons, Bool.and_eq_true] at h
      have hb := h.1
      simp only [isDig, Bool.and_eq_true, decide_eq_true_eq] at hb
      rw [List.foldl_cons, List.length_cons, show m + (t.length + 1) = (m + 1) + t.length by omega]
      exact ih _ _ h.2 (by rw [Nat.pow_succ]; omega)
  have := key l 0 0 h (by simp)
  rw [Nat.zero_add] at this
  exact this
theorem digNat_take {t : List UInt8} {k : Nat} (h : k < t.length) : digNat (t.take (k + 1)) = digNat (t.take k) * 10 + (t[k].toNat - 48) := by
  rw [digNat, List.take_add_one, List.getElem?_eq_getElem h, List.foldl_append]; rfl
theorem all_take {t : List UInt8} {k : Nat} (h : k < t.length) : (t.take (k + 1)).all isDig = ((t.take k).all isDig && isDig t[k]) := by
  rw [List.take_add_one, List.getElem?_eq_getElem h, List.all_append]; simp
theorem all_bad {t : List UInt8} {k : Nat} (h : k < t.length) (hb : isDig t[k] = false) : t.all isDig = false := by
  rw [List.all_eq_false]; exact ⟨t[k], List.getElem_mem h, by rw [hb]; simp⟩
theorem dig_mag {t : List UInt8} {k : Nat} (h : t.length ≤ 40) (ha : (t.take k).all isDig = true) : mag (digNat (t.take k) : Int) < 65536 ^ 12 := by
  have := digNat_lt ha
  have hk : (t.take k).length ≤ 40 := by rw [List.length_take]; omega
  have h2 : 10 ^ (t.take k).length ≤ 10 ^ 40 := Nat.pow_le_pow_right (by omega) hk
  rw [mag_pos (by omega)]
  have h3 : (65536 : Int) ^ 12 = ((65536 ^ 12 : Nat) : Int) := by decide
  have h4 : 10 ^ 40 < 65536 ^ 12 := by decide
  rw [h3]
  exact Int.ofNat_lt.mpr (by omega)

theorem bytes_len {S : ByteArray} {l : List UInt8} (hl : S.data.toList = l) : S.size = l.length := by subst hl; rfl
theorem bytes_get {S : ByteArray} {l : List UInt8} (hl : S.data.toList = l) {k : Nat} (h : k < S.size) (h2 : k < l.length) : S[k] = l[k] := by subst hl; rfl

set_option maxRecDepth 100000 in
set_option maxHeartbeats 8000000 in
theorem parse2_any (S : ByteArray) (l : List UInt8) (hl : S.data.toList = l) (w : World) (hsz : S.size ≤ 1000000) :
    Calls Tryd.prog 28 #[.string S] w (AsParse l w) := by
  have HL := Lib.hid hl
  clear hl
  have R0 := (NumAt.new (zero_num w) 34).alloc fresh
  have V0 := NumAt.new (zero_num (w.alloc fresh)) 34
  rw [World.size_alloc] at V0
  have E0 := ext_alloc (below_new w fresh) fresh
  change NumAt ((w.alloc fresh).alloc fresh) _ _ _ _ _ _ at V0
  change NumAt ((w.alloc fresh).alloc fresh) _ _ _ _ _ _ at R0
  go_enter Tryd.func28, Tryd.ntmps28
  go_upto_region 2 with fail
  change Code.wp _ _ _ _ ((w.alloc fresh).alloc fresh)
  generalize (w.alloc fresh).alloc fresh = W at *
  go_cut [5] (fun g wx => ∃ neg : Bool, g = .bool neg ∧ Hid (txNeg l = neg) ∧ W = wx)
  case first =>
    cases l with
    | nil =>
      have hs0 : S.size = 0 := bytes_len HL.out
      go_wp2_with fail
      go_meet
      exact ⟨_, rfl, Lib.hid rfl, rfl⟩
    | cons b t =>
      have hs0 : 0 < S.size := by rw [bytes_len HL.out]; simp
      have hg : S[0] = b := bytes_get HL.out hs0 (by simp)
      have hneg : txNeg (b :: t) = ((b.toNat : Int) == 45) := by
        show (b.toNat == 45) = _
        cases h : b.toNat == 45 <;> symm <;> simp at h ⊢ <;> omega
      cases hb : ((b.toNat : Int) == 45) with
      | true =>
        rw [hb] at hneg
        go_wp2_with fail
        go_meet
        exact ⟨_, rfl, Lib.hid hneg, rfl⟩
      | false =>
        rw [hb] at hneg
        go_wp2_with fail
        go_meet
        exact ⟨_, rfl, Lib.hid hneg, rfl⟩
  case rest =>
    obtain ⟨neg, rfl, HN, rfl⟩ := hcut
    go_upto_if 16 with fail
    go_cut [0] (fun s wx => ∃ (S' : ByteArray), s = .string S' ∧ Hid (S'.data.toList = txBody l) ∧ W = wx)
    case first =>
      cases neg with
      | true =>
        have hs0 : 0 < S.size := by
          rw [bytes_len HL.out]
          cases l with
          | nil => exact absurd HN.out (by simp [txNeg])
          | cons _ _ => simp
        have hbd : Hid ((S.extract 1 S.size).data.toList = txBody l) := Lib.hid (by
          rw [ByteArray.data_extract, Array.toList_extract, HL.out, txBody, if_pos HN.out, bytes_len HL.out]
          cases l <;> simp [List.extract])
        go_wp2_with fail
        go_meet
        exact ⟨_, rfl, hbd, rfl⟩
      | false =>
        go_wp2_with fail
        go_meet
        exact ⟨_, rfl, Lib.hid (by rw [HL.out, txBody, HN.out]; rfl), rfl⟩
    case rest =>
      obtain ⟨S', rfl, HS, rfl⟩ := hcut
      go_upto_region 5 with fail
      generalize hbl : txBody l = t at *
      have HBL := Lib.hid hbl
      clear hbl
      go_cut [38] (fun b wx => ∃ o : Bool, b = .bool o ∧ Hid (txHead t neg = !o) ∧ W = wx)
      case first =>
        cases t with
        | nil =>
          have he : S'.toList.isEmpty = true := by rw [ByteArray.toList_eq, HS.out]; rfl
          go_wp2_with fail
          go_meet
          exact ⟨_, rfl, Lib.hid rfl, rfl⟩
        | cons b t =>
          have hs0 : 0 < S'.size := by rw [bytes_len HS.out]; simp
          have he : S'.toList.isEmpty = false := by rw [ByteArray.toList_eq, HS.out]; rfl
          have hg : S'[0] = b := bytes_get HS.out hs0 (by simp)
          have hsl : S'.size = t.length + 1 := bytes_len HS.out
          have HSL := Lib.hid hsl
          have htx : ∀ c, txHead (b :: t) c = (decide (0 < t.length + 1) && decide (t.length + 1 ≤ 40) && !(((b.toNat : Int) == 48) && (decide (1 < t.length + 1) || c))) := fun _ => rfl
          have HTX := Lib.hid htx
          clear htx hsl
          by_cases h40 : 40 < S'.size
          · have ht : txHead (b :: t) neg = false := by
              have := HSL.out
              rw [HTX.out, decide_eq_false (show ¬ t.length + 1 ≤ 40 by omega), Bool.and_false, Bool.false_and]
            have HT := Lib.hid ht
            clear ht
            go_wp2_with fail
            go_meet
            exact ⟨_, rfl, HT, rfl⟩
          · cases h48 : ((b.toNat : Int) == 48) with
            | false =>
              have ht : txHead (b :: t) neg = true := by
                have := HSL.out
                rw [HTX.out, decide_eq_true (show t.length + 1 ≤ 40 by omega), decide_eq_true (show 0 < t.length + 1 by omega), h48]
                rfl
              have HT := Lib.hid ht
              clear ht
              go_wp2_with fail
              go_meet
              exact ⟨_, rfl, Lib.hid (by rw [HT.out, decide_eq_false (by omega)]; rfl), rfl⟩
            | true =>
              by_cases h1 : 1 < S'.size
              · have ht : txHead (b :: t) neg = false := by
                  have := HSL.out
                  rw [HTX.out, decide_eq_true (show 1 < t.length + 1 by omega), h48]; simp
                have HT := Lib.hid ht
                clear ht
                go_wp2_with fail
                go_meet
                exact ⟨_, rfl, HT, rfl⟩
              · have ht : txHead (b :: t) neg = !neg := by
                  have := HSL.out
                  rw [HTX.out, decide_eq_false (show ¬ 1 < t.length + 1 by omega), decide_eq_true (show t.length + 1 ≤ 40 by omega), decide_eq_true (show 0 < t.length + 1 by omega), h48]; simp
                have HT := Lib.hid ht
                clear ht
                go_wp2_with fail
                go_meet
                exact ⟨_, rfl, Lib.hid (by rw [HT.out, decide_eq_false (by omega), decide_eq_false (by omega)]; rfl), rfl⟩
      case rest =>
        obtain ⟨o, rfl, HO, rfl⟩ := hcut
        cases o with
        | true =>
          have hbad : txGood l = false := by rw [txGood, HBL.out, HN.out, HO.out]; rfl
          have HB := Lib.hid hbad
          obtain ⟨k0, k1, k2, k3, k4⟩ := id V0
          obtain ⟨l0, l1, l2, l3, l4⟩ := id R0
          clear hbad
          go_wp2_with fail
          have RR := R0.set_ (zero_num W)
          have rr0 := RR.c0
          have rr1 := RR.c1
          have hbb := ext_put (ext_put E0 (Nat.le_refl _) (.bool false) (p := ⟨w.heap.size, 0, none⟩)) (Nat.le_refl _) (.slice none 0 0) (p := ⟨w.heap.size, 1, none⟩)
          clear V0 R0 RR k0 k1 k2 k3 k4 l0 l1 l2 l3 l4
          exact bodyPost_ret (v := .tuple #[.agg #[.bool false, .slice none 0 0], .bool false]) (by simp [results, Tryd.results28, go_sem, rr0, rr1]) rfl (AsParse.no HB.out hbb)
        | false =>
          go_upto_region 8 with fail
          have hlt40 : t.length ≤ 40 ∧ 0 < t.length := by
            have := HO.out
            simp only [txHead, Bool.not_false, Bool.and_eq_true, decide_eq_true_eq] at this
            omega
          have hsl : S'.size = t.length := bytes_len HS.out
          go_loopw [6] (fun i wr => ∃ (k : Nat) (b : Bool) (A : Option Addr) (n c : Nat), k ≤ t.length ∧ i = .int .i64 (k : Int) ∧ (t.take k).all isDig = true ∧ NumAt wr (w.heap.size + 1) b A n c (digNat (t.take k) : Int) ∧
              NumAt wr w.heap.size false none 0 0 0 ∧ Below w.heap.size w wr) (fun i _ => t.length - (intOf i).toNat)
          case atStart => exact ⟨0, _, _, _, _, Nat.zero_le _, rfl, rfl, V0, R0, E0⟩
          case round =>
            obtain ⟨k, b, A, n, c, hk, rfl, hall, V1, R1, E1⟩ := hrel
            have HALL := Lib.hid hall
            clear V0 R0 E0 hall
            obtain ⟨k0, k1, k2, k3, k4⟩ := id V1
            obtain ⟨l0, l1, l2, l3, l4⟩ := id R1
            by_cases hkl : k < t.length
            · have hks : k < S'.size := by omega
              have hg : S'[k] = t[k] := bytes_get HS.out hks hkl
              have HDN := Lib.hid (digNat_take hkl)
              have HAT := Lib.hid (all_take hkl)
              have HDM := Lib.hid (dig_mag hlt40.1 HALL.out)
              have HBADD : Hid (isDig t[k] = false → txGood l = false) := Lib.hid fun h => by rw [txGood, HBL.out, HN.out, HO.out, all_bad hkl h]; rfl
              generalize hch : t[k] = ch at *
              clear hch
              have RR := R1.set_ (zero_num wr)
              have rr0 := RR.c0
              have rr1 := RR.c1
              have hbb := ext_put (ext_put E1 (Nat.le_refl _) (.bool false) (p := ⟨w.heap.size, 0, none⟩)) (Nat.le_refl _) (.slice none 0 0) (p := ⟨w.heap.size, 1, none⟩)
              go_upto_block 1 with fail
              go_cut [] (fun wx => ∃ (s5 : Bool) (A5 : Option Addr) (n5 c5 : Nat), NumAt wx (w.heap.size + 1) s5 A5 n5 c5 (digNat (t.take (k + 1)) : Int) ∧ NumAt wx w.heap.size false none 0 0 0 ∧ Below w.heap.size w wx ∧ Hid ((t.take (k + 1)).all isDig = true))
              case first =>
                by_cases h48 : (ch.toNat : Int) < 48
                · have HB := Lib.hid (HBADD.out (by simp only [isDig, decide_eq_false (show ¬ 48 ≤ ch.toNat by omega), Bool.false_and]))
                  clear V1 R1 RR k0 k1 k2 k3 k4
                  go_wp2_with fail
                  exact bodyPost_ret (v := .tuple #[.agg #[.bool false, .slice none 0 0], .bool false]) (by simp [results, Tryd.results28, go_sem, rr0, rr1]) rfl (AsParse.no HB.out hbb)
                · by_cases h57 : 57 < (ch.toNat : Int)
                  · have HB := Lib.hid (HBADD.out (by simp only [isDig, decide_eq_false (show ¬ ch.toNat ≤ 57 by omega), Bool.and_false]))
                    clear V1 R1 RR k0 k1 k2 k3 k4
                    go_wp2_with fail
                    exact bodyPost_ret (v := .tuple #[.agg #[.bool false, .slice none 0 0], .bool false]) (by simp [results, Tryd.results28, go_sem, rr0, rr1]) rfl (AsParse.no HB.out hbb)
                  · clear RR rr0 rr1 hbb
                    go_upto_region 12 with fail
                    have HD0 := Lib.hid (show 48 ≤ ch.toNat by omega)
                    have HD1 := Lib.hid (show ch.toNat ≤ 57 by omega)
                    obtain ⟨d, hde⟩ : ∃ d : Int, (ch.toNat : Int) - 48 = d := ⟨_, rfl⟩
                    have hsub : Hid (IntKind.i64.wrap (IntKind.i64.wrap (ch.toNat : Int) - 48) = d) := Lib.hid (by rw [← hde, IntWalk.i64_in (ch.toNat : Int) (by omega)]; exact IntWalk.i64_in _ (by omega))
                    have hdf : Fits ((ch.toNat : Int) - 48) := by unfold Fits; omega
                    have hdm : mag ((ch.toNat : Int) - 48) < 65536 ^ 13 := by have := mag_long hdf; rw [pow4] at this; have := pow_le (show 4 ≤ 13 by omega); rw [pow4] at this; omega
                    have hm13 : mag ((digNat (t.take k) : Int) * 10) < 65536 ^ 13 := by
                      have := HDM.out
                      rw [mag_pos (by omega)] at this ⊢
                      rw [show (65536 : Int) ^ 13 = 65536 ^ 12 * 65536 from Int.pow_succ ..]
                      omega
                    have HDF := Lib.hid hdf; have HDMM := Lib.hid hdm; have HM13 := Lib.hid hm13
                    have hnx : (digNat (t.take k) : Int) * 10 + ((ch.toNat : Int) - 48) = (digNat (t.take (k + 1)) : Int) := by rw [HDN.out]; omega
                    have hdg : isDig ch = true := by simp only [isDig, Bool.and_eq_true, decide_eq_true_eq]; exact ⟨HD0.out, HD1.out⟩
                    have HNX := Lib.hid hnx
                    have HALL1 : Hid ((t.take (k + 1)).all isDig = true) := Lib.hid (by rw [HAT.out, HALL.out, hdg]; rfl)
                    have H10 : Hid (mag (10 : Int) < 65536 ^ 12) := Lib.hid (by have := pow_le (show 4 ≤ 12 by omega); rw [pow4] at this; rw [mag_pos (by omega)]; omega)
                    clear h48 h57 hdf hdm hm13 hnx hdg
                    rw [hde] at HDF HDMM HNX
                    clear hde HBADD HD0 HD1 HAT
                    go_region_with (first
                      | (go_at_call_of 20 (10 : Int); refine (of_any 10 _ (by decide)).mono ?_; rintro e w2 ⟨r2, rfl, hr2, hq2⟩; have V2 := V1.below (below_undrew hq2); have R2 := R1.below (below_undrew hq2); have e2 : Below w.heap.size w w2 := ext_step E1 (below_undrew hq2); clear hq2; obtain ⟨m0, m1, m2, m3, -⟩ := id V2)
                      | (go_at_call 19; refine (mulN_any _ _ (digNat (t.take k) : Int) 10 _ 12 (by exact V2.num) (by exact hr2) HDM.out H10.out (by omega)).mono ?_; rintro e w3 ⟨r3, rfl, hr3, hq3⟩; have V3 := V2.below hq3; have R3 := R2.below hq3; have e3 : Below w.heap.size w w3 := ext_step e2 hq3; clear hq3; obtain ⟨n0, n1, n2, n3, -⟩ := id V3)
                      | (go_at_call 20; rw [hsub.out]; refine (of_any d _ HDF.out).mono ?_; rintro e w4 ⟨r4, rfl, hr4, hq4⟩; have V4 := V3.below hq4; have R4 := R3.below hq4; have e4 : Below w.heap.size w w4 := ext_step e3 hq4; have hr34 := hr3.below hq4; clear hq4; obtain ⟨o0, o1, o2, o3, -⟩ := id V4)
                      | (go_at_call 15; refine (addN_any _ _ ((digNat (t.take k) : Int) * 10) d _ 13 (by exact hr34) (by exact hr4) HM13.out HDMM.out (by omega)).mono ?_; rintro e w5 ⟨r5, rfl, hr5, hq5⟩; have V5 := V4.below hq5; have R5 := R4.below hq5; have e5 : Below w.heap.size w w5 := ext_step e4 hq5; clear hq5; obtain ⟨q0, q1, q2, q3, -⟩ := id V5; have HR5 := Lib.hid hr5; obtain ⟨s5, A5, n5, c5, rfl, -, -⟩ := hr5.form))
                    all_goals
                      go_wp2_with fail
                      go_meet
                      have hset := V5.set_ HR5.out
                      rw [HNX.out] at hset
                      exact ⟨_, _, _, _, hset, R5.put V5 (by omega) s5 A5 n5 c5, ext_put (ext_put e5 (Nat.le_succ _) _) (Nat.le_succ _) _, HALL1⟩
              case rest =>
                obtain ⟨s5, A5, n5, c5, V5, R5, E5, HA5⟩ := hcut
                clear V1 R1 E1 k0 k1 k2 k3 k4 l0 l1 l2 l3 l4
                go_wp2_with fail
                go_roundw
                case rel => exact ⟨k + 1, s5, A5, n5, c5, hkl, by go_num, HA5.out, V5, R5, E5⟩
                case measure => simp [intOf]; omega
            · obtain rfl : k = t.length := by omega
              rw [List.take_length] at V1 k4
              rw [List.take_length] at HALL
              have HG := Lib.hid (show txGood l = true by rw [txGood, HBL.out, HN.out, HO.out, HALL.out]; rfl)
              have HDM : Hid (mag (digNat t : Int) < 65536 ^ 12) := Lib.hid (by have := dig_mag (k := t.length) hlt40.1 (by rw [List.take_length]; exact HALL.out); rw [List.take_length] at this; exact this)
              cases neg with
              | true =>
                go_upto_region 14 with fail
                go_wp2_with fail
                refine (neg_any _ _ wr 12 k4 HDM.out (by omega)).mono ?_; rintro e w2 ⟨r2, rfl, hr2, hq2⟩
                have V2 := V1.below hq2
                have R2 := R1.below hq2
                have E2 := ext_step E1 hq2
                have HR2 := Lib.hid hr2
                obtain ⟨s2, A2, n2, c2, rfl, -, -⟩ := hr2.form
                have V3 := V2.set_ HR2.out
                have R3 := R2.put V2 (by omega) s2 A2 n2 c2
                have E3 := ext_put (ext_put E2 (Nat.le_succ _) (.bool s2) (p := ⟨w.heap.size + 1, 0, none⟩)) (Nat.le_succ _) (.slice A2 n2 c2) (p := ⟨w.heap.size + 1, 1, none⟩)
                clear V1 R1 E1 hr2 hq2 k0 k1 k2 k3 k4 l0 l1 l2 l3 l4
                obtain ⟨k0, k1, k2, k3, k4⟩ := id V2
                obtain ⟨m0, m1, m2, m3, m4⟩ := id V3
                obtain ⟨l0, l1, l2, l3, l4⟩ := id R3
                have RR := R3.set_ V3.num
                have rr0 := RR.c0
                have rr1 := RR.c1
                have E4 := ext_put (ext_put E3 (Nat.le_refl _) (.bool s2) (p := ⟨w.heap.size, 0, none⟩)) (Nat.le_refl _) (.slice A2 n2 c2) (p := ⟨w.heap.size, 1, none⟩)
                have HRR := Lib.hid RR.num
                clear RR R2 V2 R3 V3
                go_wp2_with fail
                exact bodyPost_ret (v := .tuple #[.agg #[.bool s2, .slice A2 n2 c2], .bool true]) (by simp [results, Tryd.results28, go_sem, rr0, rr1]) rfl
                  ⟨_, by rw [HG.out], by rw [txNum, if_pos HG.out, if_pos HN.out, HBL.out]; exact HRR.out, E4⟩
              | false =>
                have RR := R1.set_ V1.num
                have rr0 := RR.c0
                have rr1 := RR.c1
                have E4 := ext_put (ext_put E1 (Nat.le_refl _) (.bool b) (p := ⟨w.heap.size, 0, none⟩)) (Nat.le_refl _) (.slice A n c) (p := ⟨w.heap.size, 1, none⟩)
                have HRR := Lib.hid RR.num
                clear RR
                go_wp2_with fail
                exact bodyPost_ret (v := .tuple #[.agg #[.bool b, .slice A n c], .bool true]) (by simp [results, Tryd.results28, go_sem, rr0, rr1]) rfl
                  ⟨_, by rw [HG.out], by rw [txNum, if_pos HG.out, if_neg (by rw [HN.out]; simp), HBL.out]; exact HRR.out, E4⟩
end Go.Proofs.YtedojpblfmkjeaaDoor
