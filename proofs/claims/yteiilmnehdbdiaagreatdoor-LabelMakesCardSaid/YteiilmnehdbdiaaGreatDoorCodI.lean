/- What is left of bytes that are read is bytes. -/
import Derived.Test.YteiilmnehdbdiaaGreatDoorCodW
namespace Go.Proofs.YteiilmnehdbdiaaGreatDoor
open Go.RowKit

theorem byte_stU {bs : List Int} {e : Int} {m : Nat} (h : IsByte bs) (hn : bs.length ≤ m) : IsByte (stU bs e).2.1 ∧ (stU bs e).2.1.length ≤ m := by
  unfold stU
  split
  · obtain ⟨h1, h2⟩ := readU_rest bs
    refine ⟨?_, Nat.le_trans h2 hn⟩
    rw [h1]
    exact fun c hc => h c (List.mem_of_mem_drop hc)
  · exact ⟨h, hn⟩
theorem byte_stC {bs : List Int} {e most : Int} {m : Nat} (h : IsByte bs) (hn : bs.length ≤ m) : IsByte (stC bs e most).2.1 ∧ (stC bs e most).2.1.length ≤ m := by
  unfold stC
  split
  · exact ⟨h, hn⟩
  · exact byte_stU h hn
theorem byte_stT {bs : List Int} {e most : Int} {m : Nat} (h : IsByte bs) (hn : bs.length ≤ m) : IsByte (stT bs e most).2.1 ∧ (stT bs e most).2.1.length ≤ m := by
  have hc := byte_stC (e := e) (most := most) h hn
  unfold stT
  split
  · split
    · exact ⟨h, hn⟩
    · refine ⟨fun c hx => hc.1 c (List.mem_of_mem_drop hx), ?_⟩
      rw [List.length_drop]
      omega
  · exact hc
end Go.Proofs.YteiilmnehdbdiaaGreatDoor
