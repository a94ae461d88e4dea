/- slices.Grow of no bytes: a row of the call's own, empty, with room. -/
import Derived.Test.YtckbkbfnddhpnaaCloneB
import Derived.Test.YtckbkbfnddhpnaaStep
import Derived.Lib.AppendZeros
namespace Go.Proofs.Ytckbkbfnddhpnaa
open Go.RowKit

set_option maxRecDepth 100000 in
set_option maxHeartbeats 1000000 in
theorem growB_any (n : Nat) (w : World) (hn : n ≤ 1000000) :
    Calls Try.prog 22 #[.slice none 0 0, .int .i64 n] w (Copied 5 .u8 w []) := by
  obtain ⟨i0, hi, hz0, hz1, hz2⟩ := info_parts byte_infoC
  by_cases h0 : n = 0
  · subst h0
    go_enter Try.func22, Try.ntmps22
    go_wp2_with fail
    go_ret
    exact ⟨_, rfl, ⟨rfl, .inl ⟨rfl, rfl⟩⟩, Below.refl _ _⟩
  · have hr := Lib.run_append_nil_zeros (P := Try.prog) w 23 3 23 5 i0 (.int .u8 0) .i64 .i64 Try.underlying23 Try.underlying3 hi hz0 n (by omega) (by omega) (by omega) (by rw [hz2]; omega)
    have n0 : ¬ ((n : Int) < 0) := by omega
    have n1 : (0 : Int) < (n : Int) := by omega
    have hge := grownCap_ge w n 0 5
    have hle := grownCap_le_maxLen w n 0 5 (by unfold maxLen; omega)
    have hB : Below w.heap.size w (w.drew.alloc (.cells (Builtin.zeroCells (Value.int .u8 0).cells n ++ Builtin.zeroCells (Value.int .u8 0).cells (grownCap w n 0 5 - n)) 5)) := by
      have h := below_new w.drew (.cells (Builtin.zeroCells (Value.int .u8 0).cells n ++ Builtin.zeroCells (Value.int .u8 0).cells (grownCap w n 0 5 - n)) 5)
      exact ⟨h.os, h.tape, h.output, h.size, h.block⟩
    have hO : Owned 5 .u8 (w.drew.alloc (.cells (Builtin.zeroCells (Value.int .u8 0).cells n ++ Builtin.zeroCells (Value.int .u8 0).cells (grownCap w n 0 5 - n)) 5)) w.heap.size (.slice (some ⟨w.heap.size, 0, none⟩) 0 (grownCap w n 0 5)) [] := by
      refine ⟨rfl, .inr ⟨w.heap.size, _, _, rfl, Nat.le_refl _, heap_alloc_new w.drew _, Nat.zero_le _, hle, ?_, rfl⟩⟩
      have hz : ∀ k, (Builtin.zeroCells (Value.int .u8 0).cells k).size = k := fun k => by simp [Builtin.zeroCells, Value.cells]
      rw [Array.size_append, hz, hz]
      omega
    have HBO := Lib.hid (And.intro hB hO)
    have hsl : (n : Int) ≤ (grownCap w n 0 5 : Int) := by omega
    clear hB hO
    generalize hC : (Builtin.zeroCells (Value.int .u8 0).cells n ++ Builtin.zeroCells (Value.int .u8 0).cells (grownCap w n 0 5 - n)) = C at *
    clear hC
    generalize grownCap w n 0 5 = cp at *
    go_enter Try.func22, Try.ntmps22
    go_wp2_with (at_builtin; go_must (refine Lib.wpList_append_run _ rfl (.tmp 20) (.tmp 21) _ _ rfl _ _ rfl rfl _ _ hr ?_))
    go_ret
    exact ⟨_, rfl, HBO.out.2, HBO.out.1⟩
end Go.Proofs.Ytckbkbfnddhpnaa
