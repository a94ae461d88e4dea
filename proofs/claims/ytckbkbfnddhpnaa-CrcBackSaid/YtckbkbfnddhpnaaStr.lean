/- A text's bytes, as numbers; and back. -/
import Derived.Test.YtckbkbfnddhpnaaLeb
import Derived.Lib.AppendStr
namespace Go.Proofs.Ytckbkbfnddhpnaa
open Go.RowKit

/-- A string's bytes, as numbers; and back. -/
def strB (s : ByteArray) : List Int := s.data.toList.map fun b => ((b.toNat : Nat) : Int)
theorem strB_len (s : ByteArray) : (strB s).length = s.size := by unfold strB; rw [List.length_map]; rfl
theorem strB_cells (s : ByteArray) : Lib.strCells s = (strB s).map (Value.int .u8) := by
  unfold strB Lib.strCells
  rw [List.map_map]
  rfl
theorem strB_byte (s : ByteArray) : ∀ c ∈ strB s, 0 ≤ c ∧ c ≤ 255 := by
  intro c hc
  obtain ⟨b, -, rfl⟩ := List.mem_map.1 hc
  have := b.toNat_lt
  omega
def bytS (l : List Int) : ByteArray := ⟨(l.map fun z => UInt8.ofNat z.toNat).toArray⟩
theorem bytS_strB (s : ByteArray) : bytS (strB s) = s := by
  unfold bytS strB
  rw [List.map_map]
  have e : ((fun z : Int => UInt8.ofNat z.toNat) ∘ fun b : UInt8 => ((b.toNat : Nat) : Int)) = id := by
    funext b
    simp
  rw [e, List.map_id]
theorem strB_bytS {l : List Int} (h : ∀ c ∈ l, 0 ≤ c ∧ c ≤ 255) : strB (bytS l) = l := by
  unfold bytS strB
  rw [List.map_map]
  conv => rhs; rw [← List.map_id l]
  apply List.map_congr_left
  intro c hc
  have := h c hc
  simp
  omega
/-- A text's bytes. -/
def txtL (s : ByteArray) : List Int := lebL s.size ++ strB s
end Go.Proofs.Ytckbkbfnddhpnaa
