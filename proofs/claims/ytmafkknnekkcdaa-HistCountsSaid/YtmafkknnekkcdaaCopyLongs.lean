/- A copy of a list, walked (CopyLongs). -/
import Derived.Test.YtmafkknnekkcdaaRows
import Derived.Test.YtmafkknnekkcdaaAppend
import Derived.WalkSpells
import Derived.WalkLawsBesides
namespace Go.Proofs.Ytmafkknnekkcdaa
open Go.RowKit

theorem infoLongs : (Try.prog.info? 2).map (fun i => (i.zero, i.size, i.bytes)) = some (some (.int .i64 0), 1, 8) := by kernel_rfl
set_option maxRecDepth 100000 in
set_option maxHeartbeats 1000000 in
theorem copyLongs_any (v : Value) (zs : List Int) (w : World) (hl : Lst w w.heap.size .i64 v zs) (hn : zs.length ≤ 1000000) :
    Calls Try.prog 15 #[v] w (Copied 2 .i64 w zs) := by
  obtain ⟨i0, hi, hz0, hz1, hz2⟩ := info_parts infoLongs
  obtain ⟨A, c, rfl⟩ := hl.len
  have hsrc := hl.src (w' := w.alloc (.cells #[] 2)) (fun _ hp => (below_new w _).cell hp)
  have SRC := Lib.hid hsrc
  clear hsrc hl
  go_enter Try.func15, Try.ntmps15
  go_wp2_with (at_builtin; go_must (refine wpList_append_src _ rfl (.tmp 3) (.tmp 4) 30 rfl w.heap.size 2 i0 (.int .i64 0) Try.underlying30 hi hz0 hz1 8 hz2 rfl _ 0 [] rfl (owned_empty _ w _ (Nat.le_refl _)) A c zs rfl SRC.out (by unfold maxLen; omega) (by omega) (by simp) ?_); intro v1 w1 hown1 hgrow1)
  have hb := copied_own hown1 hgrow1
  clear hown1 hgrow1
  go_ret
  exact ⟨v1, rfl, hb⟩
end Go.Proofs.Ytmafkknnekkcdaa
