/- A copy of a list, walked (CopyBytes). -/
import Derived.Test.YteiilmnehdbdiaaGreatDoorRows
import Derived.Test.YteiilmnehdbdiaaGreatDoorAppend
import Derived.WalkSpells
import Derived.WalkLawsBesides
namespace Go.Proofs.YteiilmnehdbdiaaGreatDoor
open Go.RowKit

theorem infoBytes : (Tryz.prog.info? 5).map (fun i => (i.zero, i.size, i.bytes)) = some (some (.int .u8 0), 1, 1) := by kernel_rfl
set_option maxRecDepth 100000 in
set_option maxHeartbeats 1000000 in
theorem copyBytes_any (v : Value) (zs : List Int) (w : World) (hl : Lst w w.heap.size .u8 v zs) (hn : zs.length ≤ 1000000) :
    Calls Tryz.prog 25 #[v] w (Copied 5 .u8 w zs) := by
  obtain ⟨i0, hi, hz0, hz1, hz2⟩ := info_parts infoBytes
  obtain ⟨A, c, rfl⟩ := hl.len
  have hsrc := hl.src (w' := w.alloc (.cells #[] 5)) (fun _ hp => (below_new w _).cell hp)
  have SRC := Lib.hid hsrc
  clear hsrc hl
  go_enter Tryz.func25, Tryz.ntmps25
  go_wp2_with (at_builtin; go_must (refine wpList_append_src _ rfl (.tmp 3) (.tmp 4) 41 rfl w.heap.size 5 i0 (.int .u8 0) Tryz.underlying41 hi hz0 hz1 1 hz2 rfl _ 0 [] rfl (owned_empty _ w _ (Nat.le_refl _)) A c zs rfl SRC.out (by unfold maxLen; omega) (by omega) (by simp) ?_); intro v1 w1 hown1 hgrow1)
  have hb := copied_own hown1 hgrow1
  clear hown1 hgrow1
  go_ret
  exact ⟨v1, rfl, hb⟩
end Go.Proofs.YteiilmnehdbdiaaGreatDoor
