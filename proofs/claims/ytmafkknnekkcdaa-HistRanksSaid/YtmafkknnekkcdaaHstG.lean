/- Package hist's Full on the landed code: the closure's walk, for every body of a loop that keeps the receiver's own copy. -/
import Derived.Test.YtmafkknnekkcdaaHstV
import Derived.Test.YtmafkknnekkcdaaHstFl
import Derived.Test.YtmafkknnekkcdaaHstT
namespace Go.Proofs.Ytmafkknnekkcdaa
open Go.RowKit Go.Shelf
attribute [local go_sem] Oper.semAt_some

theorem fullL_len (hs : List Int) : (fullL hs).length ≤ 65 := by
  unfold fullL
  exact Nat.le_trans (List.length_filterMap_le ..) (by simp)

set_option maxRecDepth 100000 in
set_option maxHeartbeats 4000000 in
theorem full1_in (hs : List Int) (hl : hs.length = 65) (l L U B : Nat) {α : Type} (encs : α → Array Value) (xs : List α) (hxs : xs.map encs = (fullL hs).map encB) (J Jx : List α → World → Prop)
    (hY : ∀ pre x W, J pre W → pre.length < 65 → YieldAt Fence.wide (7 - 1) Try.prog l (encs x) W fun e W' =>
      (e = .returned (.bool true) ∧ J (pre ++ [x]) W' ∧ KeepsIn L U W W') ∨ (e = .returned (.bool false) ∧ Jx (pre ++ [x]) W'))
    (W : World) (R : RowAt W B hs) (h0 : J [] W) :
    CallsIn Fence.wide 7 Try.prog 48 #[.func (.yield l) #[] #[], .pointer (some ⟨B, 0, none⟩)] W fun e W' => (∃ v, e = .returned v) ∧
      ((∃ ys, ys = xs ∧ J ys W') ∨ (∃ pre, pre <+: xs ∧ Jx pre W')) := by
  have hxl : Hid (xs.length ≤ 65) := Lib.hid (by have h := congrArg List.length hxs; rw [List.length_map, List.length_map] at h; have := fullL_len hs; omega)
  rw [fullL_eq] at hxs
  have HL := Lib.hid hl
  have hu := Try.underlying33
  have his := infoHl hs hl
  have HR := Lib.hid R.range
  clear R
  refine callsIn_of_wp Try.func48 rfl trivial ?_ rfl
  simp only [Try.ntmps48, List.size_toArray, List.length_cons, List.length_nil, Nat.reduceAdd, Nat.reduceSub, Array.replicate_succ, Array.replicate_zero, List.push_toArray, List.append_toArray, List.nil_append, List.cons_append]
  refine wpIn_wide.2 ?_
  go_wp2_with (refine wpList_load_mid rfl _ (.tmp 1) rfl B 0 rfl _ _ HR.out hu rfl his ?_)
  refine (wpIn_wide (n := 7)).1 ?_
  gi_loopw [6] (fun i wr => ∃ (k : Nat) (pre rest : List α), k ≤ 65 ∧ i = .int .i64 k ∧ xs = pre ++ rest ∧ rest.map encs = (fullK hs k).map encB ∧ J pre wr) (fun i _ => 65 - (intOf i).toNat)
  case atStart => exact ⟨0, [], xs, Nat.zero_le _, rfl, rfl, hxs, h0⟩
  case round =>
    obtain ⟨k, pre, rest, hk, rfl, hx, hrest, hJ⟩ := hrel
    by_cases hlt : k < 65
    · have hkl : k < hs.length := by rw [HL.out]; exact hlt
      have hgd : hs.getD k 0 = hs[k] := by rw [List.getD_eq_getElem?_getD, List.getElem?_eq_getElem hkl]; rfl
      have hst := fullK_step hs hlt
      rw [hgd] at hst
      have k0 : (0 : Int) ≤ (k : Int) := by omega
      have k1 : (k : Int) < 65 := by omega
      have hix := fun W => index_row hs HL.out k hlt _ rfl W
      by_cases hz : hs[k] = 0
      · rw [if_pos hz] at hst
        rw [hz] at hix
        clear hgd
        gi_wp2
        refine ⟨fun f h => by (cases h), ?_⟩
        gi_wp2
        exact ⟨⟨k + 1, pre, rest, by omega, rfl, hx, by rw [← hst]; exact hrest, hJ⟩, by simp [intOf]; omega⟩
      · rw [if_neg hz] at hst
        rw [hst] at hrest
        obtain ⟨x, rest', rfl⟩ : ∃ x rest', rest = x :: rest' := by
          cases rest with
          | nil => simp at hrest
          | cons x t => exact ⟨x, t, rfl⟩
        rw [List.map_cons, List.map_cons] at hrest
        injection hrest with hx1 hrest'
        have hpl : pre.length < 65 := by have h := hxl.out; rw [hx, List.length_append, List.length_cons] at h; omega
        obtain ⟨fn, tmps, assign, body, hy, hR⟩ := hY pre x wr hJ hpl
        rw [hx1] at hy
        gi_wp2
        refine hR.mono ?_
        rintro e W3 (⟨rfl, hJ3, -⟩ | ⟨rfl, hJx3⟩)
        · gi_wp2
          exact ⟨⟨k + 1, pre ++ [x], rest', by omega, rfl, by simp [hx], hrest', hJ3⟩, by simp [intOf]; omega⟩
        · gi_wp2
          refine bodyPost_ret (results_none rfl _ _ _) rfl ?_
          exact ⟨⟨_, rfl⟩, .inr ⟨pre ++ [x], ⟨rest', by simp [hx]⟩, hJx3⟩⟩
    · obtain rfl : k = 65 := by omega
      have he : fullK hs 65 = [] := rfl
      rw [he] at hrest
      have hr0 : rest = [] := by simpa using hrest
      subst hr0
      gi_wp2
      go_end0
      exact ⟨⟨_, rfl⟩, .inl ⟨pre, by simp [hx], hJ⟩⟩
/-- Full hands back a value whose rounds are those buckets. -/
theorem full_any (hs : List Int) (w : World) (hl : hs.length = 65) :
    Calls Try.prog 26 #[rowV hs] w fun e w' => Below w.heap.size w w' ∧ ∃ (gf : Nat) (lb : Array Value), e = .returned (.func (.func gf) #[] lb) ∧ (∀ args W, (callFunc gf args).run Try.prog W = .ok (.enter gf args) W) ∧
      ∀ w0, KeepsIn w.heap.size w'.heap.size w' w0 → ∀ (α : Type) (encs : α → Array Value) (xs : List α), xs.map encs = (fullL hs).map encB → SeqStopsK Fence.wide 7 Try.prog gf lb encs (KeepsIn w.heap.size w'.heap.size) (fun ys => ys = xs) (fun pre => pre <+: xs) 65 w0 := by
  have R := RowAt.new w hs 33
  have hB := below_new w (.cells ((hs.map (Value.int .i64)).toArray) 33)
  have HI : Hid ((Try.prog.info? 33).map (·.size) = some ((hs.map (Value.int .i64)).toArray).size) := Lib.hid (infoHs hs hl)
  go_enter Try.func26, Try.ntmps26
  go_wp2_with fail
  go_ret
  have hsz : w.heap.size < (w.alloc (.cells ((hs.map (Value.int .i64)).toArray) 33)).heap.size := R.lt
  refine ⟨hB, _, _, rfl, fun args W => ?enter, fun w0 hw0 α encs xs hxs l J Jx W hW _ _ hY h0 => ?_⟩
  case enter => kernel_rfl
  · have e : W.heap[w.heap.size]? = (w.alloc (.cells ((hs.map (Value.int .i64)).toArray) 33)).heap[w.heap.size]? := (hW.block _ (Nat.lt_of_lt_of_le hsz hw0.1)).trans (hw0.2 _ (Nat.le_refl _) hsz)
    have R1 : RowAt W w.heap.size hs := ⟨fun k hk => (World.cell?_of_block (w := w.alloc (.cells ((hs.map (Value.int .i64)).toArray) 33)) e).trans (R.cell k hk), fun k hk => (World.frozen?_of_block (w := w.alloc (.cells ((hs.map (Value.int .i64)).toArray) 33)) e).trans (R.free k hk), Nat.lt_of_lt_of_le R.lt (Nat.le_trans hw0.1 hW.size)⟩
    exact full1_in hs hl l _ _ w.heap.size encs xs hxs J Jx hY W R1 h0
end Go.Proofs.Ytmafkknnekkcdaa
