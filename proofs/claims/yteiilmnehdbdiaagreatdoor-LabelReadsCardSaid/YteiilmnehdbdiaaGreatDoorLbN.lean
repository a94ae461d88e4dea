/- Package label: labels handed on by an iterator, collected, sorted by the library; walked. -/
import Derived.Test.YteiilmnehdbdiaaGreatDoorLbK
import Derived.RangeFuncNested
import Derived.RangeFuncBound
import Derived.RangeFuncCalls
import Derived.RangeFuncLeaves
import Derived.RangeFuncBox
import Derived.Shelf.Abstract
import Derived.OwnWalkIn
import Derived.TacticsInMore
import Derived.LoopNIn
import Derived.LoopIn
import Derived.Maps.AppendAt
namespace Go.Proofs.YteiilmnehdbdiaaGreatDoor

section
section
open Go.RowKit Go.Shelf
attribute [local go_sem] Oper.semAt_some

def encL (l : Lab) : Array Value := #[.agg #[.string l.1, .string l.2]]

set_option maxRecDepth 100000 in
set_option maxHeartbeats 4000000 in
theorem vals1_in (n : Nat) (hn : 1 ≤ n) (l Bn n₀ : Nat) (v : Value) (xs : List Lab) (hlen : xs.length ≤ 1000000) (J Jx : List Lab → World → Prop) (hJa : ∀ pre W o, J pre W → n₀ ≤ W.heap.size → J pre (W.alloc o))
    (hY : ∀ pre x W, J pre W → pre.length < xs.length → YieldAt Fence.wide (n - 1) Tryz.prog l (encL x) W fun e W' =>
      (e = .returned (.bool true) ∧ J (pre ++ [x]) W' ∧ Below n₀ W W') ∨ (e = .returned (.bool false) ∧ Jx (pre ++ [x]) W'))
    (W : World) (hn₀ : n₀ ≤ W.heap.size) (hc : W.cell? ⟨Bn, 0, none⟩ = some v) (hL : Labs W n₀ v xs) (h0 : J [] W) :
    CallsIn Fence.wide n Tryz.prog 62 #[.func (.yield l) #[] #[], .pointer (some ⟨Bn, 0, none⟩)] W fun e W' => (∃ v, e = .returned v) ∧
      ((∃ ys, ys = xs ∧ J ys W') ∨ (∃ pre, pre <+: xs ∧ Jx pre W')) := by
  obtain ⟨A0, c0, rfl⟩ := hL.len
  have LX := Lib.hid hL
  have HJa := Lib.hid hJa
  clear hL hJa
  refine callsIn_of_wp Tryz.func62 rfl trivial ?_ rfl
  simp only [Tryz.ntmps62, List.size_toArray, List.length_cons, List.length_nil, Nat.reduceAdd, Nat.reduceSub, Array.replicate_succ, Array.replicate_zero, List.push_toArray, List.append_toArray, List.nil_append, List.cons_append]
  gi_wp2
  gi_loopw [7] (fun i wr => ∃ k : Nat, k ≤ xs.length ∧ i = .int .i64 k ∧ Below n₀ W wr ∧ J (xs.take k) wr) (fun i _ => xs.length - (intOf i).toNat)
  case atStart => exact ⟨0, Nat.zero_le _, rfl, Below.refl _ _, h0⟩
  case round =>
    obtain ⟨k, hk, rfl, hB, hJ⟩ := hrel
    have hnw : n₀ ≤ wr.heap.size := Nat.le_trans hn₀ hB.size
    by_cases hlt : k < xs.length
    · obtain ⟨ax, rfl, hbx, hcx⟩ := (LX.out.below hB).at_ (by omega)
      obtain ⟨x0, x1⟩ := hcx k hlt
      rw [add_next] at x1
      have j0 : (0 : Int) ≤ (k : Int) := by omega
      have j1 : (k : Int) < (xs.length : Int) := by omega
      have hJ2 := HJa.out _ _ (.cells #[.string xs[k].1, .string xs[k].2] 45) hJ hnw
      have hB2 := (hB.alloc hnw (.cells #[.string xs[k].1, .string xs[k].2] 45))
      have hpl : (xs.take k).length < xs.length := by rw [List.length_take]; omega
      have HT := Lib.hid (List.take_succ_eq_append_getElem hlt)
      obtain ⟨d0, d1, -, -⟩ := At2.new wr (.string xs[k].1) (.string xs[k].2) 45
      obtain ⟨fn, tmps, assign, body, hy, hR⟩ := hY _ xs[k] _ hJ2 hpl
      dsimp only [encL] at hy
      gi_wp2
      refine hR.mono ?_
      rintro e W3 (⟨rfl, hJ3, hk3⟩ | ⟨rfl, hJx3⟩)
      · rw [← HT.out] at hJ3
        have hB3 := hB2.trans hk3
        gi_wp2
        exact ⟨⟨k + 1, hlt, by go_num, hB3, hJ3⟩, by simp [intOf]; omega⟩
      · gi_wp2
        refine bodyPost_ret (results_none rfl _ _ _) rfl ?_
        exact ⟨⟨_, rfl⟩, .inr ⟨_, by rw [← HT.out]; exact List.take_prefix _ _, hJx3⟩⟩
    · obtain rfl : k = xs.length := by omega
      have j1 : ¬ (xs.length : Int) < (xs.length : Int) := by omega
      rw [List.take_length] at hJ
      gi_wp2
      go_end0
      exact ⟨⟨_, rfl⟩, .inl (by first | exact ⟨_, rfl, hJ⟩ | exact hJ)⟩

set_option maxRecDepth 100000 in
theorem values8_any (A : Option Addr) (n c : Nat) (w : World) : Calls Tryz.prog 36 #[.slice A n c] w fun e w' => e = .returned (.func (.func 62) #[] #[.pointer (some ⟨w.heap.size, 0, none⟩)]) ∧ w' = w.alloc (.cells #[.slice A n c] 22) := by
  go_enter Tryz.func36, Tryz.ntmps36
  go_wp2_with fail
  go_ret
  exact ⟨rfl, rfl⟩
theorem vals_stops (n : Nat) (hn : 1 ≤ n) (Bn n₀ : Nat) (v : Value) (xs : List Lab) (hlen : xs.length ≤ 1000000) (w : World) (hBn : Bn < n₀) (hn₀ : n₀ ≤ w.heap.size) (hc : w.cell? ⟨Bn, 0, none⟩ = some v) (hL : Labs w n₀ v xs) :
    SeqStopsK Fence.wide n Tryz.prog 62 #[.pointer (some ⟨Bn, 0, none⟩)] encL (Below n₀) (fun ys => ys = xs) (fun pre => pre <+: xs) xs.length w := fun l J Jx W hW hJ _ hY h0 =>
  vals1_in n hn l Bn n₀ v xs hlen J Jx (fun pre W1 o h _ => hJ pre W1 _ none h (World.grownBy_alloc W1 o none) (fun r e => by cases e)) hY W (Nat.le_trans hn₀ hW.size) ((hW.cell (p := ⟨Bn, 0, none⟩) (by dsimp only; omega)).trans hc) (hL.below (hW.mono hn₀)) h0
end
end

section
section
open Go.RowKit Go.Shelf
attribute [local go_sem] Oper.semAt_some

set_option maxRecDepth 100000 in
set_option maxHeartbeats 4000000 in
theorem appSeq8_any (Bn : Nat) (v : Value) (x : List Lab) (w : World) (hlen : x.length ≤ 1000000) (hBn : Bn < w.heap.size) (hc : w.cell? ⟨Bn, 0, none⟩ = some v) (hL : Labs w w.heap.size v x) :
    Calls Tryz.prog 75 #[.slice none 0 0, .func (.func 62) #[] #[.pointer (some ⟨Bn, 0, none⟩)]] w fun e w' =>
      ∃ u, e = .returned u ∧ OwnB 45 w' w.heap.size u x ∧ Below w.heap.size w w' := by
  obtain ⟨i0, hi, hz0, hz1, hz2⟩ := info_parts labelW_info
  have eg : ∀ args W, (callFunc 62 args).run Tryz.prog W = .ok (.enter 62 args) W := enters_of Tryz.func62 (by kernel_rfl) rfl
  have hB0 := grew1 w (.cells #[.slice none 0 0] 22)
  have bS := Boxed.new w 22 (.slice none 0 0)
  have hsz := World.size_alloc w (.cells #[.slice none 0 0] 22)
  have HSQ := Lib.hid (vals_stops 7 (by omega) Bn w.heap.size v x hlen (w.alloc (.cells #[.slice none 0 0] 22)) hBn hB0.size ((hB0.cell (p := ⟨Bn, 0, none⟩) hBn).trans hc) (hL.below hB0))
  clear hL hc
  refine (callsIn_wide (n := 8)).1 ?_
  refine callsIn_of_wp_marks Tryz.func75 rfl trivial ?_ rfl
  simp only [Tryz.ntmps75, List.size_toArray, List.length_cons, List.length_nil, Nat.reduceAdd, Nat.reduceSub, Array.replicate_succ, Array.replicate_zero, List.push_toArray, List.append_toArray, List.nil_append, List.cons_append]
  refine wpIn_wide.2 ?_
  go_wp2_with fail
  generalize w.alloc (.cells #[.slice none 0 0] 22) = W0 at *
  refine (wpIn_wide (n := 8)).1 ?_
  refine wpIn_rangeFunc_ownH rfl (by decide) (gf := 62) (lb := #[.pointer (some ⟨Bn, 0, none⟩)]) rfl trivial eg HSQ.out belowK_t (belowK_b hB0.size) (Below.refl _ _) (fun _ => rfl)
    (fun pre W => (∃ v, Boxed W w.heap.size 22 v ∧ W.ownsRow w.heap.size 45 2 v pre.length (cellsB pre) ∧ True) ∧ Below w.heap.size w W)
    (fun _ _ _ => False)
    (OwnFrom.and (Own.from (holdsRow_own _ _ _ _ _ (fun pre : List Lab => pre.length) (fun pre : List Lab => cellsB pre) (fun _ _ => True)) _) (ownFrom_below (Nat.le_refl _) hB0.size))
    (fun _ _ _ _ _ hs _ _ => hs)
    ⟨⟨_, bS, OwnB.nil_ _ _ _, trivial⟩, hB0⟩
    (fun l a' W => ∃ Bx, w.heap.size < Bx ∧ W.heap[Bx]? = some (.cells #[.string l.1, .string l.2] 45 (0, 0)) ∧ a' = { tmps := #[.slice none 0 0, .func (.func 62) #[] #[.pointer (some ⟨Bn, 0, none⟩)], .pointer (some ⟨w.heap.size, 0, none⟩), undef, .slice none 0 0, .pointer (some ⟨Bx, 0, none⟩), .func (.func 62) #[] #[.pointer (some ⟨Bn, 0, none⟩)], .agg #[.string l.1, .string l.2], undef, undef, undef, undef, undef], defers := [] })
    (fun l a' _ X Y row hs hg hr => by
      obtain ⟨Bx, h1, h2, h3⟩ := hs
      exact ⟨Bx, h1, (hg.block Bx (Array.getElem?_eq_some_iff.1 h2).1 (fun e' => by obtain ⟨o, ho, hc⟩ := (hr Bx e'.symm).2; rw [h2] at ho; cases ho; cases hc)).trans h2, h3⟩)
    ?assign ?body ?done ?stop
  case assign =>
    rintro l pre y W K ⟨⟨v, bS1, hrow, -⟩, hB1⟩ hK
    unfold encL
    gi_wp2
    exact hK _ _ ((KeepsOthers.alloc _ _).from _) ((Below.refl _ W).alloc hB1.size _) ⟨⟨v, bS1.alloc _, hrow.alloc _, trivial⟩, hB1.alloc hB1.size _⟩ ⟨W.heap.size, bS1.lt, World.alloc_heap_new W _, rfl⟩
  case body =>
    rintro l pre y a' W hl ⟨r, hr⟩ ⟨⟨v, bS1, hrow, -⟩, hB1⟩ ⟨Bx, hBx, bX, rfl⟩ hlt
    have cB := bS1.cell
    have d0 : W.cell? ⟨Bx, 0, none⟩ = some (.string y.1) := by simp [World.cell?, bX]
    have d1 : W.cell? ⟨Bx, 1, none⟩ = some (.string y.2) := by simp [World.cell?, bX]
    gi_wp2_with (gi_at_builtin; refine wpListIn_append_own _ rfl (.tmp 8) (.tmp 10) 22 rfl w.heap.size 45 i0 (.agg #[.string ByteArray.empty, .string ByteArray.empty]) 2 32 Tryz.underlying22 hi hz0 hz1 hz2 rfl (by decide) v pre.length (cellsB pre) rfl (hrow.alloc _) ⟨W.heap.size, 0, none⟩ 1 1 [.string y.1, .string y.2] rfl rfl (two_cells _ _ _ _) (two_strs _ _) (by unfold maxLen; omega) (by omega) (by have := hB1.size; simp; omega) ?_; intro v' w1 hown' hgrow _; obtain ⟨g', cap', rfl⟩ := ownsRow_succ hown'; obtain ⟨hv1, hv2, hr2, hk2, hb2⟩ := bS1.appended (by decide) hrow hB1.size (Nat.le_refl _) hown' hgrow; have hc1 := hv1.cell; have hf1 := hv1.frozen)
    exact ⟨hk2.from _, hb2, ⟨_, hv2, by rw [List.length_append, ← cellsB_snoc]; exact hr2, trivial⟩, hB1.trans hb2⟩
  case done =>
    rintro D ys W hD rfl ⟨⟨v, bS1, hrow, -⟩, hB1⟩ hDf
    have cB := bS1.cell
    obtain ⟨Av, cv, rfl⟩ := (show OwnB 45 W w.heap.size v ys from hrow).val
    go_wp2_with fail
    refine ⟨by simp, .inl ⟨_, _, rfl, run_takeDeferred hDf, ?_⟩⟩
    exact ⟨.slice Av ys.length cv, (results_tmp (fn := Tryz.f75) (t := 4) rfl _ _ _).trans rfl, .slice Av ys.length cv, rfl, ownsRow_putObj hrow (.deferred none) hDf rfl, hB1.trans (belowK_b (w := w) (Nat.le_refl _) W D _ _ (by have := hB0.size; omega) hDf rfl rfl)⟩
  case stop =>
    rintro D c pre W _ _ h _
    exact h.elim
end
end

section
open Go.RowKit

set_option maxRecDepth 100000 in
theorem collect8_any (Bn : Nat) (v : Value) (x : List Lab) (w : World) (hlen : x.length ≤ 1000000) (hBn : Bn < w.heap.size) (hc : w.cell? ⟨Bn, 0, none⟩ = some v) (hL : Labs w w.heap.size v x) :
    Calls Tryz.prog 60 #[.func (.func 62) #[] #[.pointer (some ⟨Bn, 0, none⟩)]] w fun e w' =>
      ∃ u, e = .returned u ∧ OwnB 45 w' w.heap.size u x ∧ Below w.heap.size w w' := by
  have CA := Lib.hid (appSeq8_any Bn v x w hlen hBn hc hL)
  clear hc hL
  go_enter Tryz.func60, Tryz.ntmps60
  go_wp2_with fail
  refine (CA.out).mono ?_; rintro e w1 ⟨u, rfl, hO, hB⟩
  go_wp2_with fail
  go_ret
  exact ⟨u, rfl, hO, hB⟩

/-! the order -/
theorem ordL_cmp (a b : Lab) : cmpL [a] [b] = ordL a b := by
  rw [cmpL_ord]
  by_cases h : ordL a b = 0
  · rw [if_neg (by simpa using h), h]; rfl
  · rw [if_pos h]
theorem swoL : Sort.SWO (ltOf ordL) where
  irrefl p := by
    unfold ltOf
    rw [← ordL_cmp, cmpL_zero.2 rfl]; rfl
  trans p q r h1 h2 := by
    unfold ltOf at *
    rw [decide_eq_true_iff, ← ordL_cmp] at *
    have h3 := cmpL_trans (Int.le_of_lt h1) (Int.le_of_lt h2)
    rcases Int.lt_or_eq_of_le h3 with h | h
    · exact h
    · have e := cmpL_zero.1 h
      rw [← e, cmpL_neg [p] [q]] at h2
      omega
  ntrans p q r h1 h2 := by
    unfold ltOf at *
    rw [decide_eq_false_iff_not, ← ordL_cmp] at *
    have h3 := cmpL_neg [p] [q]
    have h4 := cmpL_neg [q] [r]
    have h5 := cmpL_neg [p] [r]
    have h6 := cmpL_trans (x := [r]) (y := [q]) (z := [p]) (by omega) (by omega)
    omega

/-! the sort -/
def encB8 (x : Lab) : List Value := [.string x.1, .string x.2]
theorem flatB_at (d : Array Lab) (j : Nat) (h : j < d.size * 2) : (Sort.flatK encB8 2 d)[j]! = if j % 2 = 0 then .string (d[j / 2]!).1 else .string (d[j / 2]!).2 := by
  rw [Sort.get_flatK _ _ _ _ h]
  unfold encB8
  rcases (show j % 2 = 0 ∨ j % 2 = 1 by omega) with e | e <;> rw [e] <;> rfl
theorem held_labs {t : TypeId} {w : World} {B g cap : Nat} {gs : List Lab} (h : OwnB t w B (.slice (some ⟨g, 0, none⟩) gs.length cap) gs) : Sort.HoldsK encB8 2 w g 0 gs.toArray := by
  intro j hj
  have hj' : j < gs.length * 2 := by simpa using hj
  have hs : gs.toArray.size = gs.length := by simp
  have e := flatB_at gs.toArray j (by rw [hs]; exact hj')
  have hi : j / 2 < gs.length := by omega
  obtain ⟨k1, k2⟩ := cellsB_at gs (j / 2) hi
  have g1 : gs.toArray[j / 2]! = gs[j / 2] := by rw [getElem!_pos _ _ (by rw [hs]; exact hi)]; simp
  rw [g1] at e
  refine ⟨?_, by rw [Nat.zero_add]; exact World.ownsRow.frozenAt h j⟩
  rw [Nat.zero_add, World.ownsRow.cellAt h j hj']
  rcases (show j % 2 = 0 ∨ j % 2 = 1 by omega) with e0 | e0
  · rw [if_pos e0] at e
    rw [show id (Sort.flatK encB8 2 gs.toArray)[j]! = _ from e]
    have k3 := k1
    rw [show j / 2 * 2 = j by omega] at k3
    exact k3
  · rw [if_neg (by omega)] at e
    rw [show id (Sort.flatK encB8 2 gs.toArray)[j]! = _ from e]
    have k3 := k2
    rw [show j / 2 * 2 + 1 = j by omega] at k3
    exact k3
theorem labs_held {w : World} {g cap : Nat} {d : Array Lab} (h : Sort.HoldsK encB8 2 w g 0 d) (hg : g < w.heap.size) (hc : d.size ≤ cap) : Labs w w.heap.size (.slice (some ⟨g, 0, none⟩) d.size cap) d.toList := by
  have ea : ∀ j, (Addr.mk g 0 none).add j = ⟨g, j, none⟩ := fun j => by unfold Addr.add; split <;> simp_all
  refine ⟨some ⟨g, 0, none⟩, cap, by simp, by simpa using hc, fun _ => ⟨_, rfl, hg, fun j hj => ?_⟩⟩
  have hj' : j < d.size := by simpa using hj
  have g1 : d[j]! = d.toList[j] := by rw [getElem!_pos d j hj']; simp
  rw [ea, ea]
  have h0 := (h (j * 2) (by simp; omega)).1
  have h1 := (h (j * 2 + 1) (by simp; omega)).1
  rw [Nat.zero_add] at h0 h1
  rw [h0, h1, show id (Sort.flatK encB8 2 d)[j * 2]! = _ from flatB_at d (j * 2) (by omega), show id (Sort.flatK encB8 2 d)[j * 2 + 1]! = _ from flatB_at d (j * 2 + 1) (by omega), if_pos (by omega), if_neg (by omega), show j * 2 / 2 = j by omega, show (j * 2 + 1) / 2 = j by omega, g1]
  exact ⟨rfl, rfl⟩
theorem below_sortL (w : World) (B g m : Nat) (d : Array Lab) (os : Array Obj) (hB : B ≤ g) (hB2 : B ≤ w.heap.size) : Below B w (sortWorldK encB8 2 w g 0 m d os) := by
  refine ⟨rfl, rfl, rfl, ?_, fun k hk => ?_⟩
  · exact size_sortWorldK_c encB8 2 w g 0 m d os
  · unfold sortWorldK
    show ((w.heap.modify g _) ++ os)[k]? = w.heap[k]?
    rw [Array.getElem?_append]
    by_cases hs : k < w.heap.size
    · rw [if_pos (by simpa using hs), Array.getElem?_modify, if_neg (by omega)]
    · omega
/-- Labels in the order of the library's sort. -/
def AscL (hs : List Lab) : Prop := ∀ i j (_ : i < j) (hj : j < hs.length), ¬ ordL hs[j] (hs[i]'(by omega)) < 0

/-! nothing to sort -/
set_option maxRecDepth 100000 in
theorem ins8_nil (f : Value) (w : World) : Calls Tryz.prog 86 #[.slice none 0 0, .int .i64 0, .int .i64 0, f] w fun e w' => e = .returned (.tuple #[]) ∧ w' = w := by
  go_enter Tryz.func86, Tryz.ntmps86
  go_wp2_with fail
  refine wp_loop_rounds 1 ?_
  rw [rounds_succ]
  go_wp2_with fail
  (try simp only [Exit.inBlock, Exit.then])
  go_end0
  exact ⟨rfl, rfl⟩
set_option maxRecDepth 100000 in
theorem pdq8_nil (f : Value) (l : Int) (w : World) : Calls Tryz.prog 76 #[.slice none 0 0, .int .i64 0, .int .i64 0, .int .i64 l, f] w fun e w' => e = .returned (.tuple #[]) ∧ w' = w := by
  have CI := Lib.hid (ins8_nil f w)
  go_enter Tryz.func76, Tryz.ntmps76
  go_wp2_with fail
  refine wp_loop_rounds 1 ?_
  rw [rounds_succ]
  go_wp2_with fail
  refine (CI.out).mono ?_; rintro e w1 ⟨rfl, rfl⟩
  go_wp2_with fail
  (try simp only [Exit.inBlock, Exit.then]); refine bodyPost_ret (results_none rfl _ _ _) rfl ?_
  exact ⟨rfl, rfl⟩
set_option maxRecDepth 100000 in
theorem sort8_nil (f : Value) (w : World) : Calls Tryz.prog 61 #[.slice none 0 0, f] w fun e w' => e = .returned (.tuple #[]) ∧ w' = w := by
  have CP := Lib.hid fun l => pdq8_nil f l w
  have CB := Lib.hid (Tryz.bits_Len 0 w (by omega) (by omega))
  go_enter Tryz.func61, Tryz.ntmps61
  go_wp2_with fail
  refine (CB.out).mono ?_; rintro e w1 ⟨rfl, rfl⟩
  go_wp2_with fail
  refine (CP.out _).mono ?_; rintro e w1 ⟨rfl, rfl⟩
  go_wp2_with fail
  go_end0
  exact ⟨rfl, rfl⟩
set_option maxRecDepth 100000 in
set_option maxHeartbeats 1000000 in
theorem sort8_any (u : Value) (gs : List Lab) (B : Nat) (w : World) (hO : OwnB 45 w B u gs) (hn : gs.length ≤ 12) (hB : B ≤ w.heap.size) :
    Calls Tryz.prog 61 #[u, .func (.func 37) #[] #[]] w fun e w' => e = .returned (.tuple #[]) ∧ ∃ hs, AscL hs ∧ hs.Perm gs ∧ Labs w' w'.heap.size u hs ∧ Below B w w' := by
  have eg : ∀ args w, (callFunc 37 args).run Tryz.prog w = .ok (.enter 37 args) w := enters_of Tryz.func37 (by kernel_rfl) rfl
  rcases id hO.2 with ⟨rfl, h0⟩ | ⟨g, cap, cur, rfl, hb, hh, hc, _⟩
  · have e : gs = [] := List.eq_nil_of_length_eq_zero h0
    subst e
    exact (sort8_nil _ w).mono fun _ _ h => ⟨h.1, [], fun i j _ hj => absurd hj (by simp), List.Perm.refl _, Labs.nil _ _, h.2 ▸ Below.refl _ _⟩
  · have hg : g < w.heap.size := (World.ownsRow.lt hO g rfl).2
    have hS := AnyQ.slices_SortFunc_small_sorted Tryz.sortLab 2 Tryz.isAgg45 Tryz.sizeOf45 encB8 (fun _ => rfl) (fun x v hv => by simp [encB8] at hv; rcases hv with rfl | rfl <;> rfl) ordL 37 #[] swoL g 0 cap gs.toArray w eg (fun m os dk _ x y => (lcompare8_any x.1 x.2 y.1 y.2 _).mono fun _ _ h => ⟨h.1, 0, h.2⟩) (held_labs hO) hg (by simpa using hn) (fun n W _ => (Tryz.bits_Len n W (by omega) (by omega)).mono fun _ _ h => ⟨⟨_, h.1⟩, h.2⟩)
    have hs : gs.toArray.size = gs.length := by simp
    rw [hs] at hS
    refine Calls.mono hS ?_
    rintro e w' ⟨rfl, d', m, os, hp, hst, rfl⟩
    have hd : d'.size = gs.length := by have := hp.1; simpa using this
    refine ⟨rfl, d'.toList, ?_, ?_, ?_, below_sortL w B g m d' os hb hB⟩
    · intro i j hij hj
      have hj' : j < d'.size := by simpa using hj
      have e1 := hst i j (Nat.zero_le _) hij (by omega)
      rw [getElem!_pos d' j hj', getElem!_pos d' i (by omega)] at e1
      unfold ltOf at e1
      rw [decide_eq_false_iff_not] at e1
      simpa using e1
    · have h3 := hp.2.2
      rw [show d'.extract 0 gs.length = d' by rw [← hd]; simp, show gs.toArray.extract 0 gs.length = gs.toArray by simp] at h3
      simpa using h3
    · have hH := holdsK_sortWorldK_c encB8 2 w g 0 gs.toArray d' m os (held_labs hO) hg (by simpa using hd)
      have h := labs_held (cap := cap) hH (Nat.lt_of_lt_of_le hg (size_sortWorldK_c encB8 2 w g 0 m d' os)) (by omega)
      rwa [hd] at h
end
end Go.Proofs.YteiilmnehdbdiaaGreatDoor
