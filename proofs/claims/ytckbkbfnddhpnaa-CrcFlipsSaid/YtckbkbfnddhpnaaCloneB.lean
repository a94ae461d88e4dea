/- bytes.Clone, walked. -/
import Derived.Test.YtckbkbfnddhpnaaRows
import Derived.Test.YtckbkbfnddhpnaaOwn
import Derived.WalkSpells
import Derived.WalkLawsBesides
namespace Go.Proofs.Ytckbkbfnddhpnaa
open Go.RowKit

theorem byte_infoC : (Try.prog.info? 5).map (fun i => (i.zero, i.size, i.bytes)) = some (some (.int .u8 0), 1, 1) := by kernel_rfl
set_option maxRecDepth 100000 in
set_option maxHeartbeats 1000000 in
theorem cloneB_any (v : Value) (bs : List Int) (w : World) (hl : Lst w w.heap.size .u8 v bs) (hn : bs.length ≤ 1000000) :
    Calls Try.prog 19 #[v] w (Copied 5 .u8 w bs) := by
  obtain ⟨i0, hi, hz0, hz1, hz2⟩ := info_parts byte_infoC
  obtain ⟨A, c, rfl⟩ := hl.len
  rcases A with _ | ad
  · have h0 : bs = [] := by
      obtain ⟨A', c', e, _, hr⟩ := hl
      injection e with e
      subst e
      rcases Nat.eq_zero_or_pos bs.length with h | h
      · exact List.eq_nil_of_length_eq_zero h
      · obtain ⟨_, e, _⟩ := hr h; cases e
    subst h0
    clear hl
    have he : ∀ w : World, (binOp .eql 23 (.slice none 0 c) (.slice none 0 0)).run Try.prog w = .ok (.bool true) w := fun _ => rfl
    go_enter Try.func19, Try.ntmps19
    go_wp2_with fail
    go_ret
    exact ⟨_, rfl, ⟨rfl, .inl ⟨rfl, rfl⟩⟩, Below.refl _ _⟩
  · have hsrc := hl.src (w' := w.alloc (.cells #[] 5)) (fun _ hp => (below_new w _).cell hp)
    have SRC := Lib.hid hsrc
    clear hsrc hl
    have he : ∀ w : World, (binOp .eql 23 (.slice (some ad) bs.length c) (.slice none 0 0)).run Try.prog w = .ok (.bool false) w := fun _ => rfl
    go_enter Try.func19, Try.ntmps19
    go_wp2_with (at_builtin; go_must (refine wpList_append_src _ rfl (.tmp 5) (.tmp 6) 23 rfl w.heap.size 5 i0 (.int .u8 0) Try.underlying23 hi hz0 hz1 1 hz2 rfl _ 0 [] rfl (owned_empty _ w _ (Nat.le_refl _)) (some ad) c bs rfl SRC.out (by unfold maxLen; omega) (by omega) (by simp) ?_); intro v1 w1 hown1 hgrow1)
    have hb := copied_own hown1 hgrow1
    clear hown1 hgrow1
    go_ret
    exact ⟨v1, rfl, hb⟩
end Go.Proofs.Ytckbkbfnddhpnaa
