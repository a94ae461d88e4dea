/- Bytes in memory, converted into a text. -/
import Derived.Test.YteiilmnehdbdiaaGreatDoorRows
import Derived.Test.YteiilmnehdbdiaaGreatDoorMem
import Derived.Test.YteiilmnehdbdiaaGreatDoorLeb
import Derived.Laws.BytesString
import Derived.WalkSpells
import Derived.WalkLawsBesides
namespace Go.Proofs.YteiilmnehdbdiaaGreatDoor
open Go.RowKit

/-! strings of bytes -/
theorem push_all : ∀ (ns : List Int) (s : ByteArray), ns.foldl (fun r n => r.push (UInt8.ofNat n.toNat)) s = ⟨s.data ++ (ns.map fun z => UInt8.ofNat z.toNat).toArray⟩
  | [], s => by simp
  | n :: t, s => by
    rw [List.foldl_cons, push_all t]
    congr 1
    show (s.data.push (UInt8.ofNat n.toNat)) ++ _ = _
    simp

theorem run_text {B n c : Nat} {A : Option Addr} {t : List Int} (w : World) (hL : Lst w B .u8 (.slice A n c) t) {k : Nat} (hk : k ≤ t.length) : (convert 41 9 (.slice A k c)).run Tryz.prog w = .ok (.string (bytS (t.take k))) w := by
  rw [run_convert_bytes_string _ _ _ 5 _ _ _ Tryz.underlying41 Tryz.underlying5 Tryz.underlying9]
  obtain ⟨A', c', e, hc, hr⟩ := hL
  injection e with e1 e2 e3
  subst e1; subst e3
  rcases A with _ | a
  · have h0 : t.length = 0 := by
      rcases Nat.eq_zero_or_pos t.length with h | h
      · exact h
      · obtain ⟨_, e, _⟩ := hr h; cases e
    obtain rfl : k = 0 := by omega
    rw [List.take_zero]
    simp [Conv.bytesToString, bytS, go_sem]
    rfl
  · have hl : (t.take k).length = k := by rw [List.length_take]; omega
    have h := run_loadCells_list (P := Tryz.prog) (w := w) a ((t.take k).map (Value.int .u8)) fun j v hv => by
      have hj : j < k := by have := (List.getElem?_eq_some_iff.1 hv).1; rw [List.length_map, hl] at this; exact this
      obtain ⟨ad, e, _, hcell⟩ := hr (by omega)
      injection e with e
      subst e
      rw [hcell j (by omega), ← hv]
      simp [hj]
      rw [List.getElem?_eq_getElem (by omega)]
      rfl
    rw [List.length_map, hl] at h
    rw [run_bytesToString w a k c (t.take k) h, push_all]
    simp [bytS]
end Go.Proofs.YteiilmnehdbdiaaGreatDoor
