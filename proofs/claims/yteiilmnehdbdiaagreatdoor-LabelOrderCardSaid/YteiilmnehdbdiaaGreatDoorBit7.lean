/- Bits of bytes and words as numbers: a group marked, a group joined, all bits of a number turned over. No condition. -/
import Derived.Test.YteiilmnehdbdiaaGreatDoorLeb
import Derived.Laws.Bits64b
namespace Go.Proofs.YteiilmnehdbdiaaGreatDoor

set_option maxRecDepth 100000 in
theorem or_byte : ∀ n : Nat, n < 256 → n ||| 128 = 128 + n % 128 := by decide
/-- A byte with its highest bit set. -/
theorem or8_mark (z : Int) (h0 : 0 ≤ z) (h1 : z < 256) : bits .or .u8 z 128 = 128 + z % 128 := by
  obtain ⟨n, rfl⟩ := Int.eq_ofNat_of_zero_le h0
  have hn : n < 256 := by omega
  have h2 : (BitVec.ofInt 8 (n : Int)).toNat = n := by rw [BitVec.ofInt_natCast, BitVec.toNat_ofNat]; exact Nat.mod_eq_of_lt (by omega)
  have h3 : (BitVec.ofInt 8 (128 : Int)).toNat = 128 := by decide
  have h4 : ∀ n : Int, IntKind.u8.wrap n = n % 256 := fun n => by simp [IntKind.wrap, IntKind.bits, IntKind.signed]
  show IntKind.u8.wrap ((BitVec.ofInt 8 (n : Int) ||| BitVec.ofInt 8 (128 : Int)).toNat : Int) = _
  rw [BitVec.toNat_or, h2, h3, h4, or_byte n hn]
  omega
/-- A group joined to the groups below it. -/
theorem or64_join {k : Nat} {x c : Int} (hx0 : 0 ≤ x) (hx : x < 2 ^ (7 * k)) (hc : 0 ≤ c) (hs : x + c * 2 ^ (7 * k) < 18446744073709551616) : bits .or .u64 x (c * 2 ^ (7 * k)) = x + c * 2 ^ (7 * k) := by
  obtain ⟨n, rfl⟩ := Int.eq_ofNat_of_zero_le hx0
  obtain ⟨m, rfl⟩ := Int.eq_ofNat_of_zero_le hc
  have e : (m : Int) * 2 ^ (7 * k) = ((m * 2 ^ (7 * k) : Nat) : Int) := by push_cast; rfl
  have hp : (((2 ^ (7 * k) : Nat)) : Int) = 2 ^ (7 * k) := by push_cast; rfl
  have hn : n < 2 ^ (7 * k) := by omega
  rw [e] at hs ⊢
  rw [bits_or_u64_nat n (m * 2 ^ (7 * k)) (by omega) (by omega)]
  have h := Nat.two_pow_add_eq_or_of_lt hn m
  rw [Nat.or_comm, Nat.mul_comm m, ← h]
  push_cast
  omega
theorem all64 : BitVec.ofInt 64 (18446744073709551615 : Int) = BitVec.allOnes 64 := by decide
theorem neg64 : BitVec.ofInt 64 (-1 : Int) = BitVec.allOnes 64 := by decide
theorem xor64_all (x : Int) (h0 : 0 ≤ x) (h1 : x < 18446744073709551616) : bits .xor .u64 x 18446744073709551615 = 18446744073709551615 - x := by
  obtain ⟨n, rfl⟩ := Int.eq_ofNat_of_zero_le h0
  have h2 : (BitVec.ofInt 64 (n : Int)).toNat = n := by rw [BitVec.ofInt_natCast, BitVec.toNat_ofNat]; exact Nat.mod_eq_of_lt (by omega)
  show IntKind.u64.wrap ((BitVec.ofInt 64 (n : Int) ^^^ BitVec.ofInt 64 (18446744073709551615 : Int)).toNat : Int) = _
  rw [all64, BitVec.xor_allOnes, BitVec.toNat_not, h2, IntKind.wrap_u64]
  omega
theorem xor64_none (x : Int) (h0 : 0 ≤ x) (h1 : x < 18446744073709551616) : bits .xor .u64 x 0 = x := by
  obtain ⟨n, rfl⟩ := Int.eq_ofNat_of_zero_le h0
  have := bits_xor_u64_nat n 0 (by omega) (by decide)
  rw [Nat.xor_zero] at this
  exact this
theorem wrapi (n : Int) (h0 : -9223372036854775808 ≤ n) (h1 : n ≤ 9223372036854775807) : IntKind.i64.wrap n = n := by
  simp [IntKind.wrap, IntKind.bits, IntKind.signed]
  omega
theorem xori_all (x : Int) (h0 : 0 ≤ x) (h1 : x ≤ 9223372036854775807) : bits .xor .i64 x (-1) = -x - 1 := by
  obtain ⟨n, rfl⟩ := Int.eq_ofNat_of_zero_le h0
  have h2 : (BitVec.ofInt 64 (n : Int)).toNat = n := by rw [BitVec.ofInt_natCast, BitVec.toNat_ofNat]; exact Nat.mod_eq_of_lt (by omega)
  show IntKind.i64.wrap ((BitVec.ofInt 64 (n : Int) ^^^ BitVec.ofInt 64 (-1 : Int)).toNat : Int) = _
  rw [neg64, BitVec.xor_allOnes, BitVec.toNat_not, h2]
  simp [IntKind.wrap, IntKind.bits, IntKind.signed]
  omega
theorem xori_none (x : Int) (h0 : 0 ≤ x) (h1 : x ≤ 9223372036854775807) : bits .xor .i64 x 0 = x := by
  obtain ⟨n, rfl⟩ := Int.eq_ofNat_of_zero_le h0
  have h2 : (BitVec.ofInt 64 (n : Int)).toNat = n := by rw [BitVec.ofInt_natCast, BitVec.toNat_ofNat]; exact Nat.mod_eq_of_lt (by omega)
  have h3 : BitVec.ofInt 64 (0 : Int) = 0#64 := by decide
  show IntKind.i64.wrap ((BitVec.ofInt 64 (n : Int) ^^^ BitVec.ofInt 64 (0 : Int)).toNat : Int) = _
  rw [h3, BitVec.xor_zero, h2, wrapi _ (by omega) (by omega)]
theorem and64_low (u : Int) (h0 : 0 ≤ u) (h1 : u < 18446744073709551616) : bits .and .u64 u 1 = u % 2 := by
  obtain ⟨n, rfl⟩ := Int.eq_ofNat_of_zero_le h0
  have := bits_and_u64_nat n 1 (by omega) (by decide)
  rw [Nat.and_one_is_mod] at this
  exact this.trans (by push_cast; rfl)
end Go.Proofs.YteiilmnehdbdiaaGreatDoor
