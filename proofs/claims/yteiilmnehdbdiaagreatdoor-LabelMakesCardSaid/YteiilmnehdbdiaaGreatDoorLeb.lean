/- LEB128 numbers; texts as bytes. -/
import Derived.Test.YteiilmnehdbdiaaGreatDoorNum
import Derived.Lib.AppendStr
namespace Go.Proofs.YteiilmnehdbdiaaGreatDoor

section
/-- A number's bytes. -/
def lebL (n : Nat) : List Int := if n < 128 then [(n : Int)] else ((128 + n % 128 : Nat) : Int) :: lebL (n / 128)
termination_by n
decreasing_by omega
theorem leb_lt {n : Nat} (h : n < 128) : lebL n = [(n : Int)] := by rw [lebL, if_pos h]
theorem leb_ge {n : Nat} (h : 128 ≤ n) : lebL n = ((128 + n % 128 : Nat) : Int) :: lebL (n / 128) := by rw [lebL, if_neg (by omega)]
theorem leb_byte (n : Nat) : ∀ c ∈ lebL n, 0 ≤ c ∧ c ≤ 255 := by
  induction n using Nat.strongRecOn with
  | _ n ih =>
    by_cases h : n < 128
    · rw [leb_lt h]
      intro c hc
      have hc : c = (n : Int) := by simpa using hc
      omega
    · rw [leb_ge (by omega)]
      intro c hc
      rcases List.mem_cons.1 hc with rfl | hc
      · omega
      · exact ih (n / 128) (by omega) c hc
theorem leb_pos (n : Nat) : 1 ≤ (lebL n).length := by
  by_cases h : n < 128
  · rw [leb_lt h]; simp
  · rw [leb_ge (by omega)]; simp
theorem leb_le : ∀ (k n : Nat), n < 128 ^ k → 1 ≤ k → (lebL n).length ≤ k
  | 0, _, _, h => absurd h (by decide)
  | k + 1, n, h, _ => by
    by_cases h1 : n < 128
    · rw [leb_lt h1]; simp
    · rw [leb_ge (by omega), List.length_cons]
      rcases Nat.eq_zero_or_pos k with rfl | hk
      · simp at h; omega
      · have := leb_le k (n / 128) (by rw [Nat.pow_succ] at h; omega) hk
        omega
theorem leb_ten {n : Nat} (h : n < 18446744073709551616) : (lebL n).length ≤ 10 := leb_le 10 n (Nat.lt_of_lt_of_le h (by decide)) (by decide)
theorem leb_one {n : Nat} : (lebL n).length = 1 ↔ n < 128 := by
  constructor
  · intro h
    apply Nat.lt_of_not_le
    intro h1
    rw [leb_ge h1, List.length_cons] at h
    have := leb_pos (n / 128)
    omega
  · intro h; rw [leb_lt h]; rfl
theorem leb_two {n : Nat} : (lebL n).length ≤ 2 ↔ n < 16384 := by
  by_cases h : n < 128
  · rw [leb_lt h]; simp; omega
  · rw [leb_ge (by omega), List.length_cons]
    have := leb_one (n := n / 128)
    have h1 := leb_pos (n / 128)
    constructor
    · intro h2; have := this.1 (by omega); omega
    · intro h2; have := this.2 (by omega); omega
theorem leb_mono : ∀ (a b : Nat), a ≤ b → (lebL a).length ≤ (lebL b).length := by
  intro a
  induction a using Nat.strongRecOn with
  | _ a ih =>
    intro b h
    by_cases h1 : a < 128
    · rw [leb_lt h1]; exact leb_pos b
    · rw [leb_ge (n := a) (by omega), leb_ge (n := b) (by omega), List.length_cons, List.length_cons]
      have := ih (a / 128) (by omega) (b / 128) (Nat.div_le_div_right h)
      omega

/-- The bytes from the i-th on, read, with what has been read: the number, what is left, the error. -/
def readAt : List Int → Nat → Int → List Int → Int × List Int × Int
  | [], _, _, full => (0, full, 15)
  | c :: t, i, v, full => if (i = 9 ∧ 1 < c) ∨ (0 < i ∧ c = 0) then (0, full, 10) else if c < 128 then (v + c % 128 * 2 ^ (7 * i), t, 0) else readAt t (i + 1) (v + c % 128 * 2 ^ (7 * i)) full
/-- A number, read. -/
def readU (bs : List Int) : Int × List Int × Int := readAt bs 0 0 bs

theorem pow7 (i : Nat) : (2 : Int) ^ (7 * (i + 1)) = 128 * 2 ^ (7 * i) := by
  rw [show 7 * (i + 1) = 7 * i + 7 by omega, Int.pow_add]
  rw [Int.mul_comm]; rfl
theorem read_enc : ∀ (j i m : Nat) (v : Int) (rest full : List Int), i + j = 9 → m < 2 ^ (7 * j + 1) → (0 < i → 0 < m) →
    readAt (lebL m ++ rest) i v full = (v + (m : Int) * 2 ^ (7 * i), rest, 0)
  | j, i, m, v, rest, full, hij, hm, hp => by
    by_cases h : m < 128
    · rw [leb_lt h, List.singleton_append]
      unfold readAt
      rw [if_neg, if_pos (by omega), Int.emod_eq_of_lt (by omega) (by omega)]
      rintro (⟨h1, h2⟩ | ⟨h1, h2⟩)
      · obtain rfl : j = 0 := by omega
        simp at hm; omega
      · have := hp h1; omega
    · rw [leb_ge (by omega), List.cons_append]
      unfold readAt
      rcases j with _ | j
      · simp at hm; omega
      · rw [if_neg, if_neg (by omega), read_enc j (i + 1) (m / 128) _ rest full (by omega) (by rw [show 7 * (j + 1) + 1 = (7 * j + 1) + 7 by omega, Nat.pow_add] at hm; omega) (by omega)]
        · have e : ((128 + m % 128 : Nat) : Int) % 128 = ((m % 128 : Nat) : Int) := by omega
          rw [e, pow7, ← Int.mul_assoc, Int.add_assoc, ← Int.add_mul]
          have e2 : ((m % 128 : Nat) : Int) + ((m / 128 : Nat) : Int) * 128 = (m : Int) := by omega
          rw [e2]
        · rintro (⟨h1, h2⟩ | ⟨h1, h2⟩) <;> omega
/-- What was written is read again. -/
theorem read_leb {n : Nat} (h : n < 18446744073709551616) (rest : List Int) : readU (lebL n ++ rest) = ((n : Int), rest, 0) := by
  unfold readU
  rw [read_enc 9 0 n 0 rest _ rfl (Nat.lt_of_lt_of_le h (by decide)) (by omega)]
  simp
/-- A beginning of what was written ends too early. -/
theorem read_cut : ∀ (j i m k : Nat) (v : Int) (full : List Int), i + j = 9 → m < 2 ^ (7 * j + 1) → (0 < i → 0 < m) → k < (lebL m).length →
    readAt ((lebL m).take k) i v full = (0, full, 15)
  | j, i, m, 0, v, full, hij, hm, hp, hk => by rw [List.take_zero]; rfl
  | j, i, m, k + 1, v, full, hij, hm, hp, hk => by
    by_cases h : m < 128
    · rw [leb_lt h] at hk; simp at hk
    · rw [leb_ge (by omega)] at hk ⊢
      rw [List.take_succ_cons]
      unfold readAt
      rcases j with _ | j
      · simp at hm; omega
      · rw [if_neg, if_neg (by omega)]
        · exact read_cut j (i + 1) (m / 128) k _ full (by omega) (by rw [show 7 * (j + 1) + 1 = (7 * j + 1) + 7 by omega, Nat.pow_add] at hm; omega) (by omega) (by simpa using hk)
        · rintro (⟨h1, h2⟩ | ⟨h1, h2⟩) <;> omega
theorem read_short {n : Nat} (h : n < 18446744073709551616) {k : Nat} (hk : k < (lebL n).length) : readU ((lebL n).take k) = (0, (lebL n).take k, 15) :=
  read_cut 9 0 n k 0 _ rfl (Nat.lt_of_lt_of_le h (by decide)) (by omega) hk
/-- Bytes that are read as a number are those that are written of it. -/
theorem read_back : ∀ (bs : List Int) (j i : Nat) (v x : Int) (t full : List Int), (∀ c ∈ bs, 0 ≤ c ∧ c ≤ 255) → i + j = 9 → readAt bs i v full = (x, t, 0) →
    ∃ m : Nat, bs = lebL m ++ t ∧ x = v + (m : Int) * 2 ^ (7 * i) ∧ (0 < i → 0 < m) ∧ m < 2 ^ (7 * j + 1)
  | [], j, i, v, x, t, full, hb, hij, h => by
    unfold readAt at h
    injection h with h1 h2
    injection h2 with h3 h4
    exact absurd h4 (by decide)
  | c :: r, j, i, v, x, t, full, hb, hij, h => by
    have hc := hb c (List.mem_cons_self ..)
    unfold readAt at h
    by_cases h1 : (i = 9 ∧ 1 < c) ∨ (0 < i ∧ c = 0)
    · rw [if_pos h1] at h
      injection h with h1 h2
      injection h2 with h3 h4
      exact absurd h4 (by decide)
    · rw [if_neg h1] at h
      have h2 : ¬ (i = 9 ∧ 1 < c) := fun k => h1 (Or.inl k)
      have h3 : ¬ (0 < i ∧ c = 0) := fun k => h1 (Or.inr k)
      by_cases hlt : c < 128
      · rw [if_pos hlt] at h
        injection h with e1 e2
        injection e2 with e3 _
        subst e3
        obtain ⟨n, rfl⟩ := Int.eq_ofNat_of_zero_le hc.1
        refine ⟨n, by rw [leb_lt (by omega)]; rfl, ?_, fun hi => by omega, ?_⟩
        · rw [← e1, Int.emod_eq_of_lt (by omega) (by omega)]
        · rcases j with _ | j
          · have : n ≤ 1 := by omega
            simp; omega
          · have : 2 ^ 8 ≤ 2 ^ (7 * (j + 1) + 1) := Nat.pow_le_pow_right (by decide) (by omega)
            omega
      · rw [if_neg hlt] at h
        rcases j with _ | j
        · omega
        · obtain ⟨m, e1, e2, e3, e4⟩ := read_back r j (i + 1) _ x t full (fun d hd => hb d (List.mem_cons_of_mem _ hd)) (by omega) h
          have hm := e3 (by omega)
          obtain ⟨n, rfl⟩ := Int.eq_ofNat_of_zero_le hc.1
          refine ⟨n - 128 + 128 * m, ?_, ?_, fun _ => by omega, ?_⟩
          · rw [leb_ge (by omega), show 128 + (n - 128 + 128 * m) % 128 = n by omega, show (n - 128 + 128 * m) / 128 = m by omega, e1]
            rfl
          · rw [e2, pow7, Int.add_assoc, ← Int.mul_assoc, ← Int.add_mul]
            have e : (n : Int) % 128 + (m : Int) * 128 = ((n - 128 + 128 * m : Nat) : Int) := by omega
            rw [e]
          · rw [show 7 * (j + 1) + 1 = (7 * j + 1) + 7 by omega, Nat.pow_add]
            omega
theorem read_one {bs t : List Int} {x : Int} (hb : ∀ c ∈ bs, 0 ≤ c ∧ c ≤ 255) (h : readU bs = (x, t, 0)) : ∃ m : Nat, bs = lebL m ++ t ∧ x = (m : Int) ∧ m < 18446744073709551616 := by
  obtain ⟨m, h1, h2, -, h4⟩ := read_back bs 9 0 0 x t bs hb rfl h
  exact ⟨m, h1, by simpa using h2, Nat.lt_of_lt_of_le h4 (by decide)⟩
/-- What a reading may end with. -/
theorem read_kinds : ∀ (bs : List Int) (i : Nat) (v : Int) (full : List Int), ((readAt bs i v full).2.2 = 0 ∧ ∃ p, bs = p ++ (readAt bs i v full).2.1) ∨ ((readAt bs i v full).1 = 0 ∧ (readAt bs i v full).2.1 = full ∧ ((readAt bs i v full).2.2 = 10 ∨ (readAt bs i v full).2.2 = 15))
  | [], i, v, full => Or.inr ⟨rfl, rfl, Or.inr rfl⟩
  | c :: r, i, v, full => by
    unfold readAt
    split
    · exact Or.inr ⟨rfl, rfl, Or.inl rfl⟩
    · split
      · exact Or.inl ⟨rfl, ⟨[c], rfl⟩⟩
      · rcases read_kinds r (i + 1) (v + c % 128 * 2 ^ (7 * i)) full with ⟨h, p, hp⟩ | h
        · exact Or.inl ⟨h, c :: p, by rw [List.cons_append, ← hp]⟩
        · exact Or.inr h

/-- A long's turn, and back. -/
def turnI (v : Int) : Int := if 0 ≤ v then 2 * v else 2 * (-(v + 1)) + 1
def unturnI (u : Int) : Int := if u % 2 = 0 then u / 2 else -(u / 2) - 1
theorem turn_bd {v : Int} (h : Fits v) : 0 ≤ turnI v ∧ turnI v < 18446744073709551616 := by unfold Fits at h; unfold turnI; split <;> omega
theorem unturn_fits {u : Int} (h0 : 0 ≤ u) (h1 : u < 18446744073709551616) : Fits (unturnI u) := by unfold Fits unturnI; split <;> omega
theorem unturn_turn (v : Int) : unturnI (turnI v) = v := by unfold unturnI turnI; split <;> split <;> omega
theorem turn_unturn {u : Int} (h0 : 0 ≤ u) : turnI (unturnI u) = u := by unfold unturnI turnI; split <;> split <;> omega

/-- A reader's answers: the value, what is left, the error. -/
def stU (bs : List Int) (e : Int) : Int × List Int × Int := if e = 0 then readU bs else (0, bs, e)
def stC (bs : List Int) (e most : Int) : Int × List Int × Int := if e = 0 ∧ (readU bs).2.2 = 0 ∧ max most 0 < (readU bs).1 then (0, bs, 17) else stU bs e
def stT (bs : List Int) (e most : Int) : List Int × List Int × Int :=
  if (stC bs e most).2.2 = 0 then (if ((stC bs e most).2.1.length : Int) < (stC bs e most).1 then ([], bs, 15) else ((stC bs e most).2.1.take (stC bs e most).1.toNat, (stC bs e most).2.1.drop (stC bs e most).1.toNat, 0)) else ([], (stC bs e most).2.1, (stC bs e most).2.2)
def stE (bs : List Int) (e : Int) : Int := if e = 0 ∧ 0 < bs.length then 10 else e
theorem readU_rest (bs : List Int) : (readU bs).2.1 = bs.drop (bs.length - (readU bs).2.1.length) ∧ (readU bs).2.1.length ≤ bs.length := by
  unfold readU
  rcases read_kinds bs 0 0 bs with ⟨-, p, hp⟩ | ⟨-, h, -⟩
  · generalize (readAt bs 0 0 bs).2.1 = t at *
    subst hp
    rw [List.length_append, Nat.add_sub_cancel]
    simp
  · rw [h]; simp
theorem readU_val {bs : List Int} (hb : ∀ c ∈ bs, 0 ≤ c ∧ c ≤ 255) : 0 ≤ (readU bs).1 ∧ (readU bs).1 < 18446744073709551616 := by
  rcases read_kinds bs 0 0 bs with ⟨h, -⟩ | ⟨h, -⟩
  · obtain ⟨m, -, h1, h2⟩ := read_one (bs := bs) (t := (readU bs).2.1) (x := (readU bs).1) hb (Prod.ext rfl (Prod.ext rfl h))
    rw [h1]; omega
  · have h : (readU bs).1 = 0 := h
    rw [h]; omega
theorem readU_err (bs : List Int) : (readU bs).2.2 = 0 ∨ ((readU bs).1 = 0 ∧ (readU bs).2.1 = bs ∧ ((readU bs).2.2 = 10 ∨ (readU bs).2.2 = 15)) := by
  rcases read_kinds bs 0 0 bs with ⟨h, -⟩ | h
  · exact Or.inl h
  · exact Or.inr h

/-- A group more: it fits 64 bits. -/
theorem acc_bd {k : Nat} {x b : Int} (hk : k ≤ 9) (hx0 : 0 ≤ x) (hx : x < 2 ^ (7 * k)) (b0 : 0 ≤ b) (hg : ¬ (k = 9 ∧ 1 < b)) :
    0 ≤ b % 128 * 2 ^ (7 * k) ∧ x + b % 128 * 2 ^ (7 * k) < 18446744073709551616 ∧ (k < 9 → x + b % 128 * 2 ^ (7 * k) < 2 ^ (7 * (k + 1))) := by
  have hp : (0 : Int) < 2 ^ (7 * k) := Int.pow_pos (by decide)
  have h7 := pow7 k
  have h1 : 0 ≤ b % 128 ∧ b % 128 ≤ 127 := by omega
  have h2 : b % 128 * 2 ^ (7 * k) ≤ 127 * 2 ^ (7 * k) := Int.mul_le_mul_of_nonneg_right h1.2 (Int.le_of_lt hp)
  have h0 : 0 ≤ b % 128 * 2 ^ (7 * k) := Int.mul_nonneg h1.1 (Int.le_of_lt hp)
  refine ⟨h0, ?_, fun _ => by rw [h7]; omega⟩
  by_cases h9 : k = 9
  · subst h9
    have hb : b ≤ 1 := by omega
    have h3 : b % 128 * 2 ^ (7 * 9) ≤ 1 * 2 ^ (7 * 9) := Int.mul_le_mul_of_nonneg_right (by omega) (Int.le_of_lt hp)
    have e : (2 : Int) ^ (7 * 9) = 9223372036854775808 := by decide
    rw [e] at *
    omega
  · have h3 : (2 : Int) ^ (7 * (k + 1)) ≤ 2 ^ 63 := by
      have := Nat.pow_le_pow_right (n := 2) (by decide) (show 7 * (k + 1) ≤ 63 by omega)
      exact_mod_cast this
    have e : (2 : Int) ^ 63 = 9223372036854775808 := by decide
    omega
end

section
open Go.RowKit

/-- A string's bytes, as numbers; and back. -/
def strB (s : ByteArray) : List Int := s.data.toList.map fun b => ((b.toNat : Nat) : Int)
theorem strB_len (s : ByteArray) : (strB s).length = s.size := by unfold strB; rw [List.length_map]; rfl
theorem strB_cells (s : ByteArray) : Lib.strCells s = (strB s).map (Value.int .u8) := by
  unfold strB Lib.strCells
  rw [List.map_map]
  rfl
theorem strB_byte (s : ByteArray) : ∀ c ∈ strB s, 0 ≤ c ∧ c ≤ 255 := by
  intro c hc
  obtain ⟨b, -, rfl⟩ := List.mem_map.1 hc
  have := b.toNat_lt
  omega
def bytS (l : List Int) : ByteArray := ⟨(l.map fun z => UInt8.ofNat z.toNat).toArray⟩
theorem bytS_strB (s : ByteArray) : bytS (strB s) = s := by
  unfold bytS strB
  rw [List.map_map]
  have e : ((fun z : Int => UInt8.ofNat z.toNat) ∘ fun b : UInt8 => ((b.toNat : Nat) : Int)) = id := by
    funext b
    simp
  rw [e, List.map_id]
theorem strB_bytS {l : List Int} (h : ∀ c ∈ l, 0 ≤ c ∧ c ≤ 255) : strB (bytS l) = l := by
  unfold bytS strB
  rw [List.map_map]
  conv => rhs; rw [← List.map_id l]
  apply List.map_congr_left
  intro c hc
  have := h c hc
  simp
  omega
/-- A text's bytes. -/
def txtL (s : ByteArray) : List Int := lebL s.size ++ strB s
end
end Go.Proofs.YteiilmnehdbdiaaGreatDoor
