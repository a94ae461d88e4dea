/- A series read from bytes, as numbers and texts. -/
import Derived.Test.YteiilmnehdbdiaaGreatDoorCodI
import Derived.Test.YteiilmnehdbdiaaGreatDoorLab
namespace Go.Proofs.YteiilmnehdbdiaaGreatDoor
open Go.RowKit

/-- So many labels, read. -/
def rdL : Nat → List Int → Int → List Lab × List Int × Int
  | 0, bs, e => ([], bs, e)
  | k + 1, bs, e => ((bytS (stT bs e 64).1, bytS (stT (stT bs e 64).2.1 (stT bs e 64).2.2 64).1) :: (rdL k (stT (stT bs e 64).2.1 (stT bs e 64).2.2 64).2.1 (stT (stT bs e 64).2.1 (stT bs e 64).2.2 64).2.2).1,
      (rdL k (stT (stT bs e 64).2.1 (stT bs e 64).2.2 64).2.1 (stT (stT bs e 64).2.1 (stT bs e 64).2.2 64).2.2).2)
def rdName (bs : List Int) (e : Int) : ByteArray := bytS (stT bs e 64).1
def rdCnt (bs : List Int) (e : Int) : Int × List Int × Int := stC (stT bs e 64).2.1 (stT bs e 64).2.2 8
def rdAll (bs : List Int) (e : Int) : List Lab × List Int × Int := rdL (rdCnt bs e).1.toNat (rdCnt bs e).2.1 (rdCnt bs e).2.2
/-- What Read answers: a name, labels, an error. -/
def readE (bs : List Int) (e : Int) : ByteArray × List Lab × Int :=
  if (rdAll bs e).2.2 ≠ 0 then (ByteArray.empty, [], (rdAll bs e).2.2)
  else if IsRight (rdName bs e) (rdAll bs e).1 then (rdName bs e, (rdAll bs e).1, 0) else (ByteArray.empty, [], 10)

theorem stC_small (bs : List Int) (e most : Int) : 0 ≤ most → (stC bs e most).1 ≤ most := by
  intro hm
  unfold stC
  split
  · exact hm
  · rename_i hbig
    unfold stU
    split
    · rename_i he
      rcases readU_err bs with h | ⟨h1, -, -⟩
      · have := fun k => hbig ⟨he, h, k⟩; omega
      · omega
    · exact hm
theorem stT_len (bs : List Int) (e : Int) : (stT bs e 64).1.length ≤ 64 := by
  have h := stC_small bs e 64 (by decide)
  unfold stT
  split
  · split
    · exact Nat.zero_le _
    · rw [List.length_take]; omega
  · exact Nat.zero_le _
theorem bytS_size (l : List Int) : (bytS l).size = l.length := by unfold bytS; show (List.toArray _).size = _; simp
theorem rdL_size : ∀ (k : Nat) (bs : List Int) (e : Int), ∀ l ∈ (rdL k bs e).1, l.1.size ≤ 64 ∧ l.2.size ≤ 64
  | 0, _, _, l, h => absurd h (by simp [rdL])
  | k + 1, bs, e, l, h => by
    rw [rdL] at h
    rcases List.mem_cons.1 h with rfl | h
    · exact ⟨by rw [bytS_size]; exact stT_len _ _, by rw [bytS_size]; exact stT_len _ _⟩
    · exact rdL_size k _ _ l h
theorem rdL_len : ∀ (k : Nat) (bs : List Int) (e : Int), (rdL k bs e).1.length = k
  | 0, _, _ => rfl
  | k + 1, bs, e => by rw [rdL, List.length_cons, rdL_len k]
theorem readE_cases (bs : List Int) (e : Int) : (readE bs e).2.2 = 0 ∧ IsRight (readE bs e).1 (readE bs e).2.1 ∨ (readE bs e).2.2 ≠ 0 ∧ (readE bs e).1 = ByteArray.empty ∧ (readE bs e).2.1 = [] := by
  unfold readE
  split
  · rename_i h; exact Or.inr ⟨h, rfl, rfl⟩
  · split
    · rename_i h; exact Or.inl ⟨rfl, h⟩
    · exact Or.inr ⟨(by decide : (10 : Int) ≠ 0), rfl, rfl⟩
end Go.Proofs.YteiilmnehdbdiaaGreatDoor
