/- What wide.Text answers: the number's decimal text; behind the table of powers as the program lays it. -/
import Derived.Test.YtedojpblfmkjeaaDoorAtW
import Derived.Test.YtedojpblfmkjeaaDoorFormat
import Derived.Test.YtedojpblfmkjeaaDoorCanon
import Derived.Test.YtedojpblfmkjeaaDoorDiv
namespace Go.Proofs.YtedojpblfmkjeaaDoor
open Go.RowKit

theorem digits_words {m : Nat} (h : m ≤ 170141183460469231731687303715884105728) : IntKind.u64.wrap (around (m : Int) / 18446744073709551616) = ((m / 18446744073709551616 : Nat) : Int) ∧ around (m : Int) % 18446744073709551616 = ((m % 18446744073709551616 : Nat) : Int) := by
  rw [around_lo, around_hi, IntKind.wrap_u64]
  unfold wrap64
  omega

set_option maxRecDepth 100000 in
set_option maxHeartbeats 1000000 in
theorem digitsW_any (m : Nat) (hm : m ≤ 170141183460469231731687303715884105728) (w : World) (hp : Pows w) :
    Calls Tryd.prog 48 #[.agg #[.int .i64 ((around (m : Int)) / 18446744073709551616), .int .u64 ((around (m : Int)) % 18446744073709551616)]] w (GivesT w (Lib.decDigits m)) := by
  obtain ⟨e1, e2⟩ := digits_words hm
  have hq : m / 10000000000000000000 < 18446744073709551616 := by omega
  have hr : m % 10000000000000000000 < 18446744073709551616 := by omega
  have cd := div64_any ((m / 18446744073709551616 : Nat) : Int) ((m % 18446744073709551616 : Nat) : Int) 10000000000000000000 (by omega) (by omega) (by omega) (by omega) (by omega)
  rw [show (((m / 18446744073709551616 : Nat) : Int) * 18446744073709551616 + ((m % 18446744073709551616 : Nat) : Int)) / 10000000000000000000 = ((m / 10000000000000000000 : Nat) : Int) by omega, show (((m / 18446744073709551616 : Nat) : Int) * 18446744073709551616 + ((m % 18446744073709551616 : Nat) : Int)) % 10000000000000000000 = ((m % 10000000000000000000 : Nat) : Int) by omega, ← e1, ← e2] at cd
  have CD := Lib.hid cd
  have CR := Lib.hid fun (W : World) (h : Pows W) => format_any (m % 10000000000000000000) hr W h
  have CQ := Lib.hid fun (W : World) (h : Pows W) => format_any (m / 10000000000000000000) hq W h
  clear cd e1 e2
  by_cases h0 : m / 10000000000000000000 = 0
  · have hz : ((m / 10000000000000000000 : Nat) : Int) = 0 := by omega
    have hmr : m % 10000000000000000000 = m := by omega
    rw [hz, hmr] at CD
    rw [hmr] at CR
    clear hz hmr h0 hq hr CQ
    go_enter Tryd.func48, Tryd.ntmps48
    go_wp2_with fail
    refine (CD.out _).mono ?_; rintro e w1 ⟨rfl, n1, rfl⟩
    go_wp2_with fail
    refine (CR.out _ (hp.below (below_drewN (up1 w _) n1))).mono ?_; rintro e w2 ⟨rfl, hb2⟩
    go_wp2_with fail
    go_ret
    exact ⟨_, rfl, rfl, (below_drewN (up1 w _) n1).trans (RowKit.Below.mono hb2 (by simp))⟩
  · have hz : (((m / 10000000000000000000 : Nat) : Int) == 0) = false := by simp; omega
    have hsp := dec_split 18 (m / 10000000000000000000) (m % 10000000000000000000) (by omega) (Nat.mod_lt _ (by decide))
    rw [show (10 : Nat) ^ (18 + 1) = 10000000000000000000 by decide, show m / 10000000000000000000 * 10000000000000000000 + m % 10000000000000000000 = m by omega] at hsp
    have hlr : (Lib.decDigits (m % 10000000000000000000)).length ≤ 19 := dec_len 18 _ (Nat.mod_lt _ (by decide))
    have HLQ : Hid ((Lib.decDigits (m / 10000000000000000000)).length ≤ 39) := Lib.hid (dec_len 38 _ (Nat.lt_of_lt_of_le hq (by decide)))
    have HSP := Lib.hid hsp
    generalize m / 10000000000000000000 = q at *
    generalize m % 10000000000000000000 = r at *
    clear hsp h0 hq hr
    go_enter Tryd.func48, Tryd.ntmps48
    go_wp2_with fail
    refine (CD.out _).mono ?_; rintro e w1 ⟨rfl, n1, rfl⟩
    go_wp2_with fail
    refine (CR.out _ (hp.below (below_drewN (up1 w _) n1))).mono ?_; rintro e w2 ⟨rfl, hb2⟩
    have HB2 := (below_drewN (up1 w (.cells #[.int .i64 (around (m : Int) / 18446744073709551616), .int .u64 (around (m : Int) % 18446744073709551616)] 24)) n1).trans (RowKit.Below.mono hb2 (by simp))
    have HP2 := Lib.hid (hp.below HB2)
    obtain ⟨S, hS⟩ : ∃ S : ByteArray, S = ⟨(Lib.decDigits r).toArray⟩ := ⟨_, rfl⟩
    have hSl : S.data.toList = Lib.decDigits r := by rw [hS]
    have hsz : S.size ≤ 19 := by rw [bytes_len hSl]; exact hlr
    rw [← hS]
    have HSL := Lib.hid hSl
    have cp := fun (W : World) => Tryd.strings_Repeat ⟨#[48]⟩ (19 - S.size) W (by omega) (by show 1 * _ ≤ _; omega)
    rw [show ((19 - S.size : Nat) : Int) = 19 - (S.size : Int) by omega] at cp
    have CP := Lib.hid cp
    clear cp hS hSl hb2 hlr
    go_wp2_with fail
    refine (CQ.out _ HP2.out).mono ?_; rintro e w3 ⟨rfl, hb3⟩
    have HB3 := Lib.hid (ext_step HB2 hb3)
    obtain ⟨Q, hQ⟩ : ∃ Q : ByteArray, Q = ⟨(Lib.decDigits q).toArray⟩ := ⟨_, rfl⟩
    have hQl : Q.data.toList = Lib.decDigits q := by rw [hQ]
    rw [← hQ]
    have hqs : Q.size ≤ 39 := by rw [bytes_len hQl]; exact HLQ.out
    have HQL := Lib.hid hQl
    clear hQ hQl hb3 HB2
    go_wp2_with fail
    refine (CP.out _).mono ?_; rintro e w4 ⟨rfl, hb4⟩
    have HB4 := Lib.hid (ext_step HB3.out hb4)
    obtain ⟨Z, hZ⟩ : ∃ Z : ByteArray, Z = ⟨(Lib.repeatL (⟨#[48]⟩ : ByteArray).data.toList (19 - S.size)).toArray⟩ := ⟨_, rfl⟩
    have hZl : Z.data.toList = Lib.repeatL [48] (19 - S.size) := by rw [hZ]
    rw [← hZ]
    have hzs : Z.size ≤ 19 := by rw [bytes_len hZl, Lib.repeatL_length]; simp
    have HZL := Lib.hid hZl
    have h1 : ¬ 9223372036854775807 < Q.size + Z.size := by omega
    have h2 : ¬ 9223372036854775807 < Q.size + Z.size + S.size := by omega
    have h3 : (Q ++ Z).size = Q.size + Z.size := ByteArray.size_append
    clear hZ hZl hb4 HB3
    go_wp2_with fail
    go_ret
    refine ⟨Q ++ Z ++ S, rfl, ?_, HB4.out⟩
    rw [HSP.out, ← HSL.out, ← HQL.out, ← bytes_len rfl, show 18 + 1 - S.size = 19 - S.size by omega, ← HZL.out]
    simp

set_option maxRecDepth 100000 in
set_option maxHeartbeats 1000000 in
theorem textW_any (a : Int) (ha : Two a) (w : World) (hp : Pows w) :
    Calls Tryd.prog 26 #[.agg #[.int .i64 ((a) / 18446744073709551616), .int .u64 ((a) % 18446744073709551616)]] w (GivesT w (textI a)) := by
  have hbd := two_bd.1 ha
  by_cases hn : a < 0
  · have h1 : a / 18446744073709551616 < 0 := by omega
    have CN := Lib.hid (negated_any a)
    have cd := fun (W : World) (h : Pows W) => digitsW_any a.natAbs (by omega) W h
    rw [show ((a.natAbs : Nat) : Int) = -a by omega] at cd
    have CD := Lib.hid cd
    have HT := Lib.hid (textI_neg hn)
    have hlen := two_len ha
    clear cd hbd ha hn
    go_enter Tryd.func26, Tryd.ntmps26
    go_wp2_with fail
    refine (CN.out _).mono ?_; rintro e w1 ⟨rfl, hb1⟩
    have HB1 := ext_step (up1 w _) hb1
    have HP1 := Lib.hid (hp.below HB1)
    clear hb1
    go_wp2_with fail
    refine (CD.out _ HP1.out).mono ?_; rintro e w2 ⟨S, rfl, hS, hb2⟩
    have HB2 := Lib.hid (ext_step HB1 hb2)
    have hsz : S.size ≤ 39 := by rw [bytes_len hS]; exact hlen
    have HS := Lib.hid hS
    clear hS hlen
    have h2 : ¬ 9223372036854775807 < 1 + S.size := by omega
    go_wp2_with fail
    go_ret
    refine ⟨⟨#[45]⟩ ++ S, rfl, ?_, HB2.out⟩
    rw [HT.out, ← HS.out]
    simp
  · have h1 : ¬ a / 18446744073709551616 < 0 := by omega
    have cd := fun (W : World) (h : Pows W) => digitsW_any a.natAbs (by omega) W h
    rw [show ((a.natAbs : Nat) : Int) = a by omega, around_fit ha, ← textI_pos hn] at cd
    have CD := Lib.hid cd
    clear cd hbd ha hn
    go_enter Tryd.func26, Tryd.ntmps26
    go_wp2_with fail
    refine (CD.out _ (hp.below (up1 w _))).mono ?_; rintro e w2 ⟨S, rfl, hS, hb2⟩
    have HB2 := Lib.hid (ext_step (up1 w _) hb2)
    go_wp2_with fail
    go_ret
    exact ⟨S, rfl, hS, HB2.out⟩

end Go.Proofs.YtedojpblfmkjeaaDoor
