/- The reflected checksum of 32 bits as numbers: one step, bytes, a message as one number; what a few bits side by side do to it. No condition. -/
import Derived.Test.YtckbkbfnddhpnaaNum
namespace Go.Proofs.Ytckbkbfnddhpnaa

/-- One step of the register. -/
def stepT (s : Nat) : Nat := s / 2 ^^^ (if s % 2 = 1 then 3988292384 else 0)
def stepN : Nat → Nat → Nat
  | 0, s => s
  | n + 1, s => stepN n (stepT s)
theorem stepN_add : ∀ (m n s : Nat), stepN (m + n) s = stepN n (stepN m s)
  | 0, n, s => by rw [Nat.zero_add]; rfl
  | m + 1, n, s => by rw [Nat.succ_add]; exact stepN_add m n (stepT s)
theorem odd_xor (x y : Nat) : (x ^^^ y) % 2 = 1 ↔ ¬ (x % 2 = 1 ↔ y % 2 = 1) := by
  have h : ∀ z : Nat, z % 2 = 1 ↔ z.testBit 0 = true := fun z => by simp [Nat.testBit_zero]
  rw [h, h, h, Nat.testBit_xor]
  cases x.testBit 0 <;> cases y.testBit 0 <;> simp
theorem half_xor (x y : Nat) : (x ^^^ y) / 2 = x / 2 ^^^ y / 2 := by
  apply Nat.eq_of_testBit_eq
  intro i
  rw [Nat.testBit_xor, Nat.testBit_div_two, Nat.testBit_div_two, Nat.testBit_div_two, Nat.testBit_xor]
theorem stepT_xor (x y : Nat) : stepT (x ^^^ y) = stepT x ^^^ stepT y := by
  unfold stepT
  rw [half_xor]
  have h := odd_xor x y
  by_cases hx : x % 2 = 1 <;> by_cases hy : y % 2 = 1
  · rw [if_pos hx, if_pos hy, if_neg (by rw [h]; simp [hx, hy])]
    apply Nat.eq_of_testBit_eq
    intro i
    simp only [Nat.testBit_xor]
    cases (x / 2).testBit i <;> cases (y / 2).testBit i <;> cases (3988292384 : Nat).testBit i <;> simp
  · rw [if_pos hx, if_neg hy, if_pos (by rw [h]; simp [hx, hy])]
    apply Nat.eq_of_testBit_eq
    intro i
    simp only [Nat.testBit_xor]
    cases (x / 2).testBit i <;> cases (y / 2).testBit i <;> cases (3988292384 : Nat).testBit i <;> simp
  · rw [if_neg hx, if_pos hy, if_pos (by rw [h]; simp [hx, hy])]
    apply Nat.eq_of_testBit_eq
    intro i
    simp only [Nat.testBit_xor]
    cases (x / 2).testBit i <;> cases (y / 2).testBit i <;> cases (3988292384 : Nat).testBit i <;> simp
  · rw [if_neg hx, if_neg hy, if_neg (by rw [h]; simp [hx, hy])]
    apply Nat.eq_of_testBit_eq
    intro i
    simp only [Nat.testBit_xor]
    cases (x / 2).testBit i <;> cases (y / 2).testBit i <;> simp
theorem stepN_xor : ∀ (n x y : Nat), stepN n (x ^^^ y) = stepN n x ^^^ stepN n y
  | 0, _, _ => rfl
  | n + 1, x, y => by unfold stepN; rw [stepT_xor, stepN_xor n]
theorem stepT_double (y : Nat) : stepT (2 * y) = y := by
  unfold stepT
  rw [if_neg (by omega), Nat.xor_zero]; omega
theorem stepN_shift : ∀ (n y : Nat), stepN n (2 ^ n * y) = y
  | 0, y => by rw [Nat.pow_zero, Nat.one_mul]; rfl
  | n + 1, y => by
    unfold stepN
    rw [Nat.pow_succ, show 2 ^ n * 2 * y = 2 * (2 ^ n * y) by rw [Nat.mul_comm (2 ^ n) 2, Nat.mul_assoc], stepT_double, stepN_shift n]
theorem xor_zero {a b : Nat} (h : a ^^^ b = 0) : a = b := by
  have := congrArg (a ^^^ ·) h
  simp only [← Nat.xor_assoc, Nat.xor_self, Nat.zero_xor, Nat.xor_zero] at this
  exact this.symm
/-- A register that isn't 0 stays so, and within 32 bits. -/
theorem stepT_pos {s : Nat} (h0 : 0 < s) (h1 : s < 4294967296) : 0 < stepT s ∧ stepT s < 4294967296 := by
  have hlt : stepT s < 4294967296 := by
    unfold stepT
    apply Nat.xor_lt_two_pow (n := 32)
    · omega
    · split <;> decide
  refine ⟨?_, hlt⟩
  apply Nat.pos_of_ne_zero
  intro h
  unfold stepT at h
  have h2 := xor_zero h
  split at h2 <;> omega
theorem stepT_lt {s : Nat} (h1 : s < 4294967296) : stepT s < 4294967296 := by
  unfold stepT
  apply Nat.xor_lt_two_pow (n := 32)
  · omega
  · split <;> decide
theorem stepN_pos : ∀ (n s : Nat), 0 < s → s < 4294967296 → 0 < stepN n s ∧ stepN n s < 4294967296
  | 0, _, h0, h1 => ⟨h0, h1⟩
  | n + 1, s, h0, h1 => by
    obtain ⟨k0, k1⟩ := stepT_pos h0 h1
    exact stepN_pos n _ k0 k1
theorem stepN_lt : ∀ (n s : Nat), s < 4294967296 → stepN n s < 4294967296
  | 0, _, h1 => h1
  | n + 1, _, h1 => stepN_lt n _ (stepT_lt h1)

/-- A message as one number, its first bit the least. -/
def msgN : List Nat → Nat
  | [] => 0
  | b :: t => b + 256 * msgN t
/-- The register behind bytes. -/
def regN : List Nat → Nat → Nat
  | [], s => s
  | b :: t, s => regN t (stepN 8 (s ^^^ b))
theorem regN_app : ∀ (a b : List Nat) (s : Nat), regN (a ++ b) s = regN b (regN a s)
  | [], _, _ => rfl
  | x :: t, b, s => by
    show regN (t ++ b) (stepN 8 (s ^^^ x)) = regN b (regN t (stepN 8 (s ^^^ x)))
    exact regN_app t b _
theorem byte_add {b m : Nat} (hb : b < 256) : b + 256 * m = b ^^^ 2 ^ 8 * m := by
  apply Nat.eq_of_testBit_eq
  intro i
  rw [show b + 256 * m = 2 ^ 8 * m + b by omega, Nat.testBit_xor, Nat.testBit_two_pow_mul_add _ (by omega : b < 2 ^ 8), Nat.testBit_two_pow_mul]
  by_cases h : i < 8
  · rw [if_pos h, decide_eq_false (by omega), Bool.false_and, Bool.xor_false]
  · rw [if_neg h, decide_eq_true (by omega), Bool.true_and]
    have hz : b.testBit i = false := Nat.testBit_lt_two_pow (Nat.lt_of_lt_of_le hb (by rw [show (256 : Nat) = 2 ^ 8 from rfl]; exact Nat.pow_le_pow_right (by decide) (by omega)))
    rw [hz, Bool.false_xor]
theorem regN_msg : ∀ (bs : List Nat) (s : Nat), (∀ b ∈ bs, b < 256) → regN bs s = stepN (8 * bs.length) (msgN bs ^^^ s)
  | [], s, _ => by unfold regN msgN; rw [Nat.zero_xor]; rfl
  | b :: t, s, h => by
    unfold regN msgN
    rw [regN_msg t _ (fun x hx => h x (List.mem_cons_of_mem _ hx)), byte_add (h b (List.mem_cons_self ..)), List.length_cons, show 8 * (t.length + 1) = 8 + 8 * t.length by omega, stepN_add]
    congr 1
    rw [show b ^^^ 2 ^ 8 * msgN t ^^^ s = (2 ^ 8 * msgN t) ^^^ (s ^^^ b) by rw [Nat.xor_comm b, Nat.xor_assoc, Nat.xor_comm b], stepN_xor 8 (2 ^ 8 * msgN t) (s ^^^ b), stepN_shift]
theorem regN_lt : ∀ (bs : List Nat) (s : Nat), (∀ b ∈ bs, b < 256) → s < 4294967296 → regN bs s < 4294967296
  | [], _, _, h => h
  | b :: t, s, hb, h => by
    unfold regN
    refine regN_lt t _ (fun x hx => hb x (List.mem_cons_of_mem _ hx)) (stepN_lt 8 _ (Nat.xor_lt_two_pow (n := 32) h ?_))
    have := hb b (List.mem_cons_self ..)
    omega
/-- The checksum. -/
def crcN (bs : List Nat) : Nat := 4294967295 ^^^ regN bs 4294967295
theorem crcN_lt {bs : List Nat} (h : ∀ b ∈ bs, b < 256) : crcN bs < 4294967296 := Nat.xor_lt_two_pow (n := 32) (by decide) (regN_lt bs _ h (by decide))
theorem xor_left {m a b : Nat} (h : m ^^^ a = m ^^^ b) : a = b := by
  have := congrArg (m ^^^ ·) h
  simp only [← Nat.xor_assoc, Nat.xor_self, Nat.zero_xor] at this
  exact this
/-- Bits of a message are others, at least one and all within 32: the checksum is another one. -/
theorem crcN_burst {a b : List Nat} (ha : ∀ x ∈ a, x < 256) (hb : ∀ x ∈ b, x < 256) (hl : a.length = b.length) {f at_ : Nat} (hf0 : 0 < f) (hf : f < 4294967296) (hat : at_ ≤ 8 * b.length) (hm : msgN a = msgN b ^^^ 2 ^ at_ * f) : crcN a ≠ crcN b := by
  have h1 := regN_msg a 4294967295 ha
  have h2 := regN_msg b 4294967295 hb
  rw [hm, hl, show msgN b ^^^ 2 ^ at_ * f ^^^ 4294967295 = (msgN b ^^^ 4294967295) ^^^ 2 ^ at_ * f by rw [Nat.xor_assoc, Nat.xor_comm (2 ^ at_ * f), ← Nat.xor_assoc], stepN_xor, ← h2] at h1
  have h3 : stepN (8 * b.length) (2 ^ at_ * f) = stepN (8 * b.length - at_) f := by
    rw [show 8 * b.length = at_ + (8 * b.length - at_) by omega, stepN_add, stepN_shift]
    congr 1
    omega
  have h4 := (stepN_pos (8 * b.length - at_) f hf0 hf).1
  rw [h3] at h1
  unfold crcN
  intro h
  have h5 : regN a 4294967295 = regN b 4294967295 := xor_left h
  rw [h5] at h1
  have h6 : stepN (8 * b.length - at_) f = 0 := by
    have := congrArg (regN b 4294967295 ^^^ ·) h1
    simp only [← Nat.xor_assoc, Nat.xor_self, Nat.zero_xor] at this
    exact this.symm
  omega

/-! one bit of one byte -/
theorem msgN_bit : ∀ (L : List Nat) (p : Nat), (∀ b ∈ L, b < 256) → (msgN L).testBit p = (L.getD (p / 8) 0).testBit (p % 8)
  | [], p, _ => by unfold msgN; simp
  | b :: t, p, h => by
    unfold msgN
    rw [byte_add (h b (List.mem_cons_self ..)), Nat.testBit_xor, Nat.testBit_two_pow_mul]
    by_cases hp : p < 8
    · rw [decide_eq_false (by omega), Bool.false_and, Bool.xor_false, show p / 8 = 0 by omega, show p % 8 = p by omega]; rfl
    · rw [decide_eq_true (by omega), Bool.true_and, msgN_bit t (p - 8) (fun x hx => h x (List.mem_cons_of_mem _ hx)), show p / 8 = (p - 8) / 8 + 1 by omega, show p % 8 = (p - 8) % 8 by omega]
      have hz : b.testBit p = false := Nat.testBit_lt_two_pow (Nat.lt_of_lt_of_le (h b (List.mem_cons_self ..)) (by rw [show (256 : Nat) = 2 ^ 8 from rfl]; exact Nat.pow_le_pow_right (by decide) (by omega)))
      rw [hz, Bool.false_xor]; rfl
theorem flip_byte {b j : Nat} (hb : b < 256) (hj : j < 8) : b ^^^ 2 ^ j < 256 :=
  Nat.xor_lt_two_pow (n := 8) hb (by rw [show (2 : Nat) ^ 8 = 256 from rfl]; exact Nat.lt_of_lt_of_le (Nat.pow_lt_pow_right (by decide) hj) (by decide))
theorem msgN_flip {L : List Nat} {k j : Nat} (h : ∀ b ∈ L, b < 256) (hk : k < L.length) (hj : j < 8) : msgN (L.set k (L[k] ^^^ 2 ^ j)) = msgN L ^^^ 2 ^ (8 * k + j) := by
  have h2 : ∀ b ∈ L.set k (L[k] ^^^ 2 ^ j), b < 256 := fun b hb => by
    rcases List.mem_or_eq_of_mem_set hb with hb | rfl
    · exact h b hb
    · exact flip_byte (h _ (List.getElem_mem hk)) hj
  apply Nat.eq_of_testBit_eq
  intro p
  rw [msgN_bit _ p h2, Nat.testBit_xor, msgN_bit _ p h, Nat.testBit_two_pow, List.getD_eq_getElem?_getD, List.getD_eq_getElem?_getD, List.getElem?_set]
  by_cases e : k = p / 8
  · rw [if_pos e, if_pos hk]
    subst e
    rw [List.getElem?_eq_getElem hk]
    simp only [Option.getD_some]
    rw [Nat.testBit_xor, Nat.testBit_two_pow]
    congr 1
    rw [decide_eq_decide]
    omega
  · rw [if_neg e, decide_eq_false (by omega), Bool.xor_false]
theorem flip_next {f i at_ : Nat} (h : f.testBit i = true) : 2 ^ at_ * (f % 2 ^ i) ^^^ 2 ^ (at_ + i) = 2 ^ at_ * (f % 2 ^ (i + 1)) := by
  apply Nat.eq_of_testBit_eq
  intro p
  rw [Nat.testBit_xor, Nat.testBit_two_pow_mul, Nat.testBit_two_pow_mul, Nat.testBit_mod_two_pow, Nat.testBit_mod_two_pow, Nat.testBit_two_pow]
  by_cases h1 : at_ ≤ p
  · obtain ⟨q, rfl⟩ := Nat.exists_eq_add_of_le h1
    rw [show at_ + q - at_ = q by omega, decide_eq_true (by omega), Bool.true_and, Bool.true_and]
    rcases Nat.lt_trichotomy q i with h2 | h2 | h2
    · have a1 : decide (q < i) = true := decide_eq_true h2
      have a2 : decide (q < i + 1) = true := decide_eq_true (by omega)
      have a3 : decide (at_ + i = at_ + q) = false := decide_eq_false (by omega)
      rw [a1, a2, a3, Bool.xor_false]
    · subst h2
      have a1 : decide (q < q) = false := decide_eq_false (by omega)
      have a2 : decide (q < q + 1) = true := decide_eq_true (by omega)
      have a3 : decide (at_ + q = at_ + q) = true := decide_eq_true rfl
      rw [a1, a2, a3, h]; rfl
    · have a1 : decide (q < i) = false := decide_eq_false (by omega)
      have a2 : decide (q < i + 1) = false := decide_eq_false (by omega)
      have a3 : decide (at_ + i = at_ + q) = false := decide_eq_false (by omega)
      rw [a1, a2, a3]; simp
  · have a1 : decide (p ≥ at_) = false := decide_eq_false h1
    have a3 : decide (at_ + i = p) = false := decide_eq_false (by omega)
    rw [a1, a3]; simp
theorem flip_skip {f i : Nat} (h : f.testBit i = false) : f % 2 ^ (i + 1) = f % 2 ^ i := by
  apply Nat.eq_of_testBit_eq
  intro q
  rw [Nat.testBit_mod_two_pow, Nat.testBit_mod_two_pow]
  rcases Nat.lt_trichotomy q i with h2 | h2 | h2
  · rw [decide_eq_true h2, decide_eq_true (by omega)]
  · subst h2
    rw [h, Bool.and_false, Bool.and_false]
  · rw [decide_eq_false (by omega), decide_eq_false (by omega)]
theorem bit_mod (f i : Nat) : f.testBit i = decide (f / 2 ^ i % 2 = 1) := by
  rw [Nat.testBit_eq_decide_div_mod_eq]
end Go.Proofs.Ytckbkbfnddhpnaa
