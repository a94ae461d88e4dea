/- bytes.Equal, walked. -/
import Derived.Test.YtckbkbfnddhpnaaTextOf
namespace Go.Proofs.Ytckbkbfnddhpnaa
open Go.RowKit

/-- Are two lists of bytes the same? -/
theorem bytS_eq {xs ys : List Int} (hx : ∀ c ∈ xs, 0 ≤ c ∧ c ≤ 255) (hy : ∀ c ∈ ys, 0 ≤ c ∧ c ≤ 255) : (bytS xs = bytS ys) ↔ xs = ys :=
  ⟨fun h => by rw [← strB_bytS hx, ← strB_bytS hy, h], fun h => by rw [h]⟩

theorem toList_beq (s t : ByteArray) : (s.toList == t.toList) = decide (s = t) := by
  by_cases h : s = t
  · subst h; simp
  · have h2 : s.toList ≠ t.toList := fun e => h (by
      have e2 : s.data.toList = t.data.toList := by rw [ByteArray.toList_eq, ByteArray.toList_eq] at e; exact e
      have e3 : s.data = t.data := Array.toList_inj.1 e2
      cases s; cases t; simp_all)
    rw [decide_eq_false h]
    simpa using h2

set_option maxRecDepth 100000 in
set_option maxHeartbeats 1000000 in
theorem equalB_any (v u : Value) (xs ys : List Int) (w : World) (hv : Lst w w.heap.size .u8 v xs) (hu : Lst w w.heap.size .u8 u ys) (hx : ∀ c ∈ xs, 0 ≤ c ∧ c ≤ 255) (hy : ∀ c ∈ ys, 0 ≤ c ∧ c ≤ 255) :
    Calls Try.prog 17 #[v, u] w fun e w' => e = .returned (.bool (decide (xs = ys))) ∧ w = w' := by
  obtain ⟨A, c, rfl⟩ := hv.len
  obtain ⟨A', c', rfl⟩ := hu.len
  have h1 := run_text w hv (Nat.le_refl _)
  have h2 := run_text w hu (Nat.le_refl _)
  rw [List.take_length] at h1 h2
  have HE : Hid (decide (bytS xs = bytS ys) = decide (xs = ys)) := Lib.hid (by rw [decide_eq_decide]; exact bytS_eq hx hy)
  clear hv hu hx hy
  generalize bytS xs = s at *
  generalize bytS ys = t at *
  go_enter Try.func17, Try.ntmps17
  go_wp2_with fail
  go_ret
  exact ⟨by rw [← HE.out, ← toList_beq]; rfl, rfl⟩
end Go.Proofs.Ytckbkbfnddhpnaa
