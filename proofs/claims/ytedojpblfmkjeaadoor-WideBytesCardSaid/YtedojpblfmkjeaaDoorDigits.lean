/- Decimal digits of a whole number, the lowest last, made from the lowest on. -/
import Derived.Test.YtedojpblfmkjeaaDoorLimbs
import Derived.Lib.ItoaNum
namespace Go.Proofs.YtedojpblfmkjeaaDoor
open Go.RowKit

/-- What is so of digits behind some rounds: those that are made, and the number that is left. -/
structure Digiting (m : Nat) (left : Nat) (l : List UInt8) : Prop where
  more : 0 < left → Lib.decDigits m = Lib.decDigits left ++ l
  done : left = 0 → 0 < m → Lib.decDigits m = l
  zero : m = 0 → l = []
  len : left * 10 ^ l.length ≤ m
  pos : 0 < l.length → 0 < m
theorem Digiting.start (m : Nat) : Digiting m m [] := ⟨fun _ => by simp, fun h h0 => by omega, fun _ => rfl, by simp, fun h => absurd h (by simp)⟩
theorem Digiting.step {m left : Nat} {l : List UInt8} (h : Digiting m left l) (h0 : 0 < left) : Digiting m (left / 10) (UInt8.ofNat (48 + left % 10) :: l) := by
  have hm : 0 < m := by
    have := h.len
    have p : 0 < 10 ^ l.length := Nat.pow_pos (by omega)
    have : 1 * 1 ≤ left * 10 ^ l.length := Nat.mul_le_mul h0 p
    omega
  have e := h.more h0
  refine ⟨fun hq => ?_, fun hq _ => ?_, fun k => by omega, ?_, fun _ => hm⟩
  · rw [e, Lib.decDigits, dif_neg (by omega)]; simp
  · have hs : left < 10 := by omega
    rw [e, Lib.decDigits, dif_pos hs, Nat.mod_eq_of_lt hs]; simp
  · rw [List.length_cons, Nat.pow_succ]
    have := h.len
    have k : left / 10 * (10 ^ l.length * 10) = (left / 10 * 10) * 10 ^ l.length := by rw [Nat.mul_comm (10 ^ l.length), Nat.mul_assoc]
    have k2 : (left / 10 * 10) * 10 ^ l.length ≤ left * 10 ^ l.length := Nat.mul_le_mul_right _ (by omega)
    omega
theorem Digiting.short {m left : Nat} {l : List UInt8} (h : Digiting m left l) (h0 : 0 < left) {L : Nat} (hL : m < 65536 ^ L) : l.length ≤ 5 * L := by
  rcases Nat.lt_or_ge (5 * L) l.length with k | k
  · exfalso
    have a : 10 ^ (5 * L) ≤ 10 ^ l.length := Nat.pow_le_pow_right (by omega) (by omega)
    have b : 65536 ^ L ≤ (10 ^ 5) ^ L := Nat.pow_le_pow_left (by omega) L
    rw [← Nat.pow_mul] at b
    have c := h.len
    have d : 1 * 10 ^ l.length ≤ left * 10 ^ l.length := Nat.mul_le_mul_right _ h0
    omega
  · exact k
theorem Digiting.le {m left : Nat} {l : List UInt8} (h : Digiting m left l) : left ≤ m := by
  have p : 1 ≤ 10 ^ l.length := Nat.pow_pos (by omega)
  have k : left * 1 ≤ left * 10 ^ l.length := Nat.mul_le_mul_left _ p
  have := h.len
  omega
/-- The text of a number: its digits, with a sign ahead. -/
def textI (x : Int) : List UInt8 := Lib.itoa x
theorem textI_neg {x : Int} (h : x < 0) : textI x = 45 :: Lib.decDigits x.natAbs := if_pos h
theorem textI_pos {x : Int} (h : ¬ x < 0) : textI x = Lib.decDigits x.natAbs := by
  have : textI x = Lib.decDigits x.toNat := if_neg h
  rw [this]; congr 1; omega
theorem digits_zero : Lib.decDigits 0 = [48] := by rw [Lib.decDigits]; rfl
theorem digits_ne (m : Nat) : Lib.decDigits m ≠ [] := by
  rw [Lib.decDigits]; split <;> simp
end Go.Proofs.YtedojpblfmkjeaaDoor
