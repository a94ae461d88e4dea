/- Decimal texts: each number has one, and it alone is read as the number; digits behind a power of ten. No condition. -/
import Derived.Test.YtedojpblfmkjeaaDoorParse
import Derived.Test.YtedojpblfmkjeaaDoorTwo
import Derived.Lib.Strings
import Derived.Lib.Repeat
namespace Go.Proofs.YtedojpblfmkjeaaDoor
open Go.RowKit

/-! digits and numbers -/
theorem digNat_snoc (l : List UInt8) (b : UInt8) : digNat (l ++ [b]) = digNat l * 10 + (b.toNat - 48) := by
  unfold digNat; rw [List.foldl_append]; rfl
theorem digit_nat {d : Nat} (h : d < 10) : (UInt8.ofNat (48 + d)).toNat = 48 + d := by
  rw [UInt8.toNat_ofNat']; exact Nat.mod_eq_of_lt (by omega)
theorem digit_is {d : Nat} (h : d < 10) : isDig (UInt8.ofNat (48 + d)) = true := by
  unfold isDig; rw [digit_nat h]; simp; omega
theorem digit_back {b : UInt8} (h : isDig b = true) : UInt8.ofNat (48 + (b.toNat - 48)) = b := by
  simp only [isDig, Bool.and_eq_true, decide_eq_true_eq] at h
  rw [show 48 + (b.toNat - 48) = b.toNat by omega, UInt8.ofNat_toNat]
theorem dec_small {u : Nat} (h : u < 10) : Lib.decDigits u = [UInt8.ofNat (48 + u)] := by rw [Lib.decDigits, dif_pos h]
theorem dec_big {u : Nat} (h : ¬ u < 10) : Lib.decDigits u = Lib.decDigits (u / 10) ++ [UInt8.ofNat (48 + u % 10)] := by rw [Lib.decDigits, dif_neg h]
theorem dec_all (m : Nat) : (Lib.decDigits m).all isDig = true := by
  induction m using Nat.strongRecOn with
  | _ m ih =>
    by_cases h : m < 10
    · rw [dec_small h, List.all_cons, digit_is h]; rfl
    · rw [dec_big h, List.all_append, ih (m / 10) (by omega), List.all_cons, digit_is (show m % 10 < 10 by omega)]; rfl
theorem dec_nat (m : Nat) : digNat (Lib.decDigits m) = m := by
  induction m using Nat.strongRecOn with
  | _ m ih =>
    by_cases h : m < 10
    · rw [dec_small h, ← List.nil_append [UInt8.ofNat (48 + m)], digNat_snoc, digit_nat h]; simp [digNat]
    · rw [dec_big h, digNat_snoc, ih (m / 10) (by omega), digit_nat (show m % 10 < 10 by omega)]; omega
theorem dec_head {m : Nat} (h0 : 0 < m) : ∃ b t, Lib.decDigits m = b :: t ∧ b.toNat ≠ 48 := by
  induction m using Nat.strongRecOn with
  | _ m ih =>
    by_cases h : m < 10
    · exact ⟨_, [], dec_small h, by rw [digit_nat h]; omega⟩
    · obtain ⟨b, t, e, hb⟩ := ih (m / 10) (by omega) (by omega)
      exact ⟨b, t ++ [UInt8.ofNat (48 + m % 10)], by rw [dec_big h, e]; rfl, hb⟩
theorem dec_len : ∀ (k m : Nat), m < 10 ^ (k + 1) → (Lib.decDigits m).length ≤ k + 1
  | 0, m, h => by rw [dec_small (by simpa using h)]; simp
  | k + 1, m, h => by
    by_cases hs : m < 10
    · rw [dec_small hs]; simp
    · rw [dec_big hs, List.length_append]
      have := dec_len k (m / 10) (by rw [Nat.pow_succ] at h; omega)
      simp; omega
/-- A row of digits is its number's, but for zeros ahead. -/
theorem dec_back (l : List UInt8) (hn : l ≠ []) (ha : l.all isDig = true) (hz : l.length = 1 ∨ ∀ b t, l = b :: t → b.toNat ≠ 48) : Lib.decDigits (digNat l) = l := by
  obtain ⟨k, hk⟩ : ∃ k, l.length = k + 1 := ⟨l.length - 1, by have := List.length_pos_iff.2 hn; omega⟩
  induction k generalizing l with
  | zero =>
    obtain ⟨b, rfl⟩ := List.length_eq_one_iff.1 hk
    simp only [List.all_cons, List.all_nil, Bool.and_true] at ha
    have hb : b.toNat - 48 < 10 := by simp only [isDig, Bool.and_eq_true, decide_eq_true_eq] at ha; omega
    have e : digNat [b] = b.toNat - 48 := by simp [digNat]
    rw [e, dec_small hb, digit_back ha]
  | succ k ih =>
    have hl : l = l.dropLast ++ [l.getLast hn] := (List.dropLast_concat_getLast hn).symm
    have hlen : l.dropLast.length = k + 1 := by rw [List.length_dropLast]; omega
    generalize l.dropLast = p at *
    generalize l.getLast hn = b at *
    subst hl
    rw [List.all_append] at ha
    simp only [Bool.and_eq_true, List.all_cons, List.all_nil, Bool.and_true] at ha
    obtain ⟨hp, hb⟩ := ha
    have hpn : p ≠ [] := fun e => by rw [e] at hlen; simp at hlen
    have hz2 : ∀ c t, p = c :: t → c.toNat ≠ 48 := fun c t e => by
      rcases hz with h1 | h2
      · rw [hk] at h1; omega
      · exact h2 c (t ++ [b]) (by rw [e]; rfl)
    have e := ih p hpn hp (Or.inr hz2) hlen
    have hpos : 0 < digNat p := by
      rcases Nat.eq_zero_or_pos (digNat p) with h0 | h0
      · rw [h0, digits_zero] at e
        exact absurd rfl (hz2 48 [] e.symm)
      · exact h0
    have hd : b.toNat - 48 < 10 := by simp only [isDig, Bool.and_eq_true, decide_eq_true_eq] at hb; omega
    rw [digNat_snoc, dec_big (by omega), show (digNat p * 10 + (b.toNat - 48)) / 10 = digNat p by omega, show (digNat p * 10 + (b.toNat - 48)) % 10 = b.toNat - 48 by omega, e, digit_back hb]

/-! texts -/
theorem minus_nat {b : UInt8} (h : isDig b = true) : (b.toNat == 45) = false := by
  simp only [isDig, Bool.and_eq_true, decide_eq_true_eq] at h
  simp; omega
theorem txNeg_dec (m : Nat) : txNeg (Lib.decDigits m) = false := by
  have h := dec_all m
  cases e : Lib.decDigits m with
  | nil => rfl
  | cons b t =>
    rw [e] at h
    simp only [List.all_cons, Bool.and_eq_true] at h
    exact minus_nat h.1
theorem two_len {y : Int} (h : Two y) : (Lib.decDigits y.natAbs).length ≤ 39 := by
  rw [two_bd] at h
  exact dec_len 38 _ (by have : (10 : Nat) ^ (38 + 1) = 1000000000000000000000000000000000000000 := by decide
                         omega)
theorem text_good {y : Int} (h : Two y) : txGood (textI y) = true ∧ txNum (textI y) = y := by
  have hlen := two_len h
  have hpos : 0 < (Lib.decDigits y.natAbs).length := List.length_pos_iff.2 (digits_ne _)
  by_cases hy : y < 0
  · obtain ⟨b, t, e, hb⟩ := dec_head (show 0 < y.natAbs by omega)
    have hb2 : ((b.toNat : Int) == 48) = false := by simp; omega
    have hg : txGood (textI y) = true := by
      rw [textI_neg hy]
      have e1 : txNeg (45 :: Lib.decDigits y.natAbs) = true := rfl
      have e2 : txBody (45 :: Lib.decDigits y.natAbs) = Lib.decDigits y.natAbs := rfl
      rw [txGood, e1, e2, dec_all, Bool.and_true]
      unfold txHead
      rw [decide_eq_true hpos, decide_eq_true (show (Lib.decDigits y.natAbs).length ≤ 40 by omega), e]
      simp only [hb2, Bool.false_and, Bool.not_false, Bool.and_true]
    refine ⟨hg, ?_⟩
    rw [txNum, if_pos hg, textI_neg hy, if_pos (show txNeg (45 :: Lib.decDigits y.natAbs) = true from rfl)]
    show -((digNat (Lib.decDigits y.natAbs) : Nat) : Int) = y
    rw [dec_nat]; omega
  · have hn := txNeg_dec y.natAbs
    have e2 : txBody (Lib.decDigits y.natAbs) = Lib.decDigits y.natAbs := by rw [txBody, hn]; rfl
    have hg : txGood (textI y) = true := by
      rw [textI_pos hy, txGood, hn, e2, dec_all, Bool.and_true]
      unfold txHead
      rw [decide_eq_true hpos, decide_eq_true (show (Lib.decDigits y.natAbs).length ≤ 40 by omega)]
      by_cases h0 : y.natAbs = 0
      · rw [h0, digits_zero]; rfl
      · obtain ⟨b, t, e, hb⟩ := dec_head (show 0 < y.natAbs by omega)
        have hb2 : ((b.toNat : Int) == 48) = false := by simp; omega
        rw [e]
        simp only [hb2, Bool.false_and, Bool.not_false, Bool.and_true]
    refine ⟨hg, ?_⟩
    rw [txNum, if_pos hg, textI_pos hy, hn, e2, dec_nat]
    simp; omega
theorem good_text {l : List UInt8} (h : txGood l = true) : textI (txNum l) = l := by
  rw [txNum, if_pos h]
  simp only [txGood, Bool.and_eq_true] at h
  obtain ⟨hh, ha⟩ := h
  unfold txHead at hh
  simp only [Bool.and_eq_true, decide_eq_true_eq] at hh
  obtain ⟨⟨h0, _⟩, h48⟩ := hh
  have hne : txBody l ≠ [] := List.length_pos_iff.1 h0
  cases hn : txNeg l with
  | true =>
    rw [hn] at h48
    have hz : ∀ b t, txBody l = b :: t → b.toNat ≠ 48 := fun b t e => by
      rw [e] at h48
      simp at h48
      omega
    have e := dec_back _ hne ha (Or.inr hz)
    have hpos : 0 < digNat (txBody l) := by
      rcases Nat.eq_zero_or_pos (digNat (txBody l)) with k | k
      · rw [k, digits_zero] at e
        exact absurd rfl (hz 48 [] e.symm)
      · exact k
    rw [if_pos rfl, textI_neg (by omega), show (-(digNat (txBody l) : Int)).natAbs = digNat (txBody l) by omega, e]
    cases l with
    | nil => simp [txNeg] at hn
    | cons b t =>
      have hb : b = 45 := by
        simp only [txNeg, beq_iff_eq] at hn
        exact UInt8.toNat_inj.1 hn
      rw [txBody, if_pos hn, hb]; rfl
  | false =>
    rw [hn] at h48
    have eb : txBody l = l := by rw [txBody, hn]; rfl
    rw [eb] at h48 ha hne ⊢
    have hz : l.length = 1 ∨ ∀ b t, l = b :: t → b.toNat ≠ 48 := by
      by_cases h1 : l.length = 1
      · exact Or.inl h1
      · refine Or.inr fun b t e => ?_
        subst e
        have hl : 1 < (b :: t).length := by rw [List.length_cons] at h1 ⊢; omega
        intro hb
        have h2 : ((b.toNat : Int) == 48) = true := by simp [hb]
        rw [decide_eq_true hl] at h48
        simp [h2] at h48
    have e := dec_back _ hne ha hz
    rw [if_neg (by simp), textI_pos (by omega), Int.natAbs_natCast, e]

/-! what is read, taken around -/
def wrapFold (l : List UInt8) : Int := l.foldl (fun n b => 10 * n + ((b.toNat : Int) - 48) % 256) 0
theorem wrapFold_take {t : List UInt8} {k : Nat} (h : k < t.length) : wrapFold (t.take (k + 1)) = 10 * wrapFold (t.take k) + ((t[k].toNat : Int) - 48) % 256 := by
  rw [wrapFold, List.take_add_one, List.getElem?_eq_getElem h, List.foldl_append]; rfl
theorem wrapFold_good {l : List UInt8} (h : l.all isDig = true) : wrapFold l = (digNat l : Int) := by
  have key : ∀ (l : List UInt8) (n : Nat), l.all isDig = true → l.foldl (fun n b => 10 * n + ((b.toNat : Int) - 48) % 256) (n : Int) = ((l.foldl (fun n b => n * 10 + (b.toNat - 48)) n : Nat) : Int) := by
    intro l
    induction l with
    | nil => intro n _; rfl
    | cons b t ih =>
      intro n h
      simp only [List.all_cons, Bool.and_eq_true] at h
      have hb := h.1
      simp only [isDig, Bool.and_eq_true, decide_eq_true_eq] at hb
      rw [List.foldl_cons, List.foldl_cons, ← ih _ h.2]
      congr 1
      omega
  exact key l 0 h
/-- Is the text a number's of two words? -/
def okW (l : List UInt8) : Bool := txGood l && decide (Two (txNum l))
/-- What the digits come to, taken around. -/
def foldW (l : List UInt8) : Int := around (if txNeg l then -wrapFold (txBody l) else wrapFold (txBody l))
theorem foldW_two (l : List UInt8) : Two (foldW l) := around_two _
theorem foldW_ok {l : List UInt8} (h : okW l = true) : foldW l = txNum l := by
  simp only [okW, Bool.and_eq_true, decide_eq_true_eq] at h
  have ha : (txBody l).all isDig = true := by
    have := h.1
    simp only [txGood, Bool.and_eq_true] at this
    exact this.2
  have e : (if txNeg l then -wrapFold (txBody l) else wrapFold (txBody l)) = txNum l := by
    rw [wrapFold_good ha, txNum, if_pos h.1]
  rw [foldW, e, around_fit h.2]
theorem okW_iff (l : List UInt8) : textI (foldW l) = l ↔ okW l = true := by
  constructor
  · intro h
    have hg := text_good (foldW_two l)
    rw [h] at hg
    rw [okW, hg.1, hg.2]
    simpa using foldW_two l
  · intro h
    rw [foldW_ok h]
    simp only [okW, Bool.and_eq_true] at h
    exact good_text h.1
theorem okW_len {l : List UInt8} (h : okW l = true) : l.length ≤ 40 := by
  have e := (okW_iff l).2 h
  have hl := two_len (foldW_two l)
  rw [← e]
  by_cases hy : foldW l < 0
  · rw [textI_neg hy, List.length_cons]; omega
  · rw [textI_pos hy]; omega
theorem hasPrefix_minus (l : List UInt8) : Lib.hasPrefix l [45] = txNeg l := by
  cases l with
  | nil => rfl
  | cons b t =>
    simp only [Lib.hasPrefix, txNeg, List.isPrefixOf, Bool.and_true]
    by_cases hb : b = 45
    · subst hb; rfl
    · have h1 : (45 == b) = false := by simpa using fun e : (45 : UInt8) = b => hb e.symm
      have h2 : (b.toNat == 45) = false := by
        simp only [beq_eq_false_iff_ne, ne_eq]
        exact fun e => hb (UInt8.toNat_inj.1 e)
      rw [h1, h2]
theorem trimPrefix_minus (l : List UInt8) : Lib.trimPrefix l [45] = txBody l := by
  rw [Lib.trimPrefix, hasPrefix_minus, txBody]
  simp

/-! digits behind a power of ten -/
theorem repeat_zero (c : Nat) : Lib.repeatL [48] c = List.replicate c 48 := by
  induction c with
  | zero => rfl
  | succ c ih => rw [Lib.repeatL, ih]; rfl
theorem repeat_zero_snoc (c : Nat) : Lib.repeatL [48] (c + 1) = Lib.repeatL [48] c ++ [48] := by rw [Lib.repeatL_add]; rfl
theorem dec_split : ∀ (k q r : Nat), 0 < q → r < 10 ^ (k + 1) → Lib.decDigits (q * 10 ^ (k + 1) + r) = Lib.decDigits q ++ (Lib.repeatL [48] (k + 1 - (Lib.decDigits r).length) ++ Lib.decDigits r)
  | 0, q, r, hq, hr => by
    have h10 : r < 10 := by simpa using hr
    rw [dec_small h10, dec_big (by omega), show (q * 10 ^ (0 + 1) + r) / 10 = q by omega, show (q * 10 ^ (0 + 1) + r) % 10 = r by omega]
    rfl
  | k + 1, q, r, hq, hr => by
    have hp : 10 ^ (k + 1 + 1) = 10 * 10 ^ (k + 1) := by rw [Nat.pow_succ, Nat.mul_comm]
    have hp0 : 0 < 10 ^ (k + 1) := Nat.pow_pos (by omega)
    have hm : q * 10 ^ (k + 1 + 1) = 10 * (q * 10 ^ (k + 1)) := by rw [hp, Nat.mul_left_comm]
    have hq1 : 1 * 10 ^ (k + 1) ≤ q * 10 ^ (k + 1) := Nat.mul_le_mul_right _ hq
    rw [dec_big (by omega), show (q * 10 ^ (k + 1 + 1) + r) / 10 = q * 10 ^ (k + 1) + r / 10 by omega, show (q * 10 ^ (k + 1 + 1) + r) % 10 = r % 10 by omega,
      dec_split k q (r / 10) hq (by omega)]
    by_cases h10 : r < 10
    · rw [dec_small h10, show r / 10 = 0 by omega, digits_zero, show r % 10 = r by omega]
      show Lib.decDigits q ++ (Lib.repeatL [48] (k + 1 - 1) ++ [48]) ++ [UInt8.ofNat (48 + r)] = Lib.decDigits q ++ (Lib.repeatL [48] (k + 1 + 1 - 1) ++ [UInt8.ofNat (48 + r)])
      rw [show k + 1 - 1 = k by omega, show k + 1 + 1 - 1 = k + 1 by omega, repeat_zero_snoc]
      simp
    · rw [dec_big h10, List.length_append]
      show _ = Lib.decDigits q ++ (Lib.repeatL [48] (k + 1 + 1 - ((Lib.decDigits (r / 10)).length + 1)) ++ (Lib.decDigits (r / 10) ++ [UInt8.ofNat (48 + r % 10)]))
      rw [show k + 1 + 1 - ((Lib.decDigits (r / 10)).length + 1) = k + 1 - (Lib.decDigits (r / 10)).length by omega]
      simp
end Go.Proofs.YtedojpblfmkjeaaDoor
