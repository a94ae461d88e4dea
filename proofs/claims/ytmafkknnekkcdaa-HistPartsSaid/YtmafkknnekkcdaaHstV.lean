/- Law 5's guard, walked from what the law asks of the packages; what HistBuckets' and HistOrder's walks ask. -/
import Derived.Test.YtmafkknnekkcdaaHstK
import Derived.RangeFuncNested
import Derived.RangeFuncBound
import Derived.RangeFuncCalls
import Derived.RangeFuncLeaves
import Derived.Shelf.Abstract
import Derived.Shelf.RegionOpen
import Derived.WalkKit
import Derived.OwnWalkIn
import Derived.TacticsInMore
import Derived.LoopNIn
import Derived.LoopIn
namespace Go.Proofs.Ytmafkknnekkcdaa

section
open Go.RowKit Go.Shelf

theorem hs_at (zs : List Int) {W : World} {b : Nat} (R : RowAt W b (histOf zs)) (k : Nat) (hk : k < 65) (x : Int) (hx : cntI zs k = x) : W.cell? ⟨b, k, none⟩ = some (.int .i64 x) := by
  rw [R.cell k (by rw [histOf_length]; exact hk), histOf_at zs hk, hx]

attribute [local go_sem] Oper.semAt_some

/-- Of what lay there nothing has turned but block b. -/
def But (b : Nat) (A W : World) : Prop := A.heap.size ≤ W.heap.size ∧ ∀ k, k < A.heap.size → k ≠ b → W.heap[k]? = A.heap[k]?
theorem But.refl (b : Nat) (A : World) : But b A A := ⟨Nat.le_refl _, fun _ _ _ => rfl⟩
theorem But.own {β : Type} {b B : Nat} {A : World} (hB : A.heap.size ≤ B) : OwnFrom B (fun (_ : β) W => But b A W) := fun _ _ _ _ hs hg hr =>
  ⟨Nat.le_trans hs.1 hg.size, fun k hk hb => (hg.block k (Nat.lt_of_lt_of_le hk hs.1) (fun e => by have := (hr k e.symm).1; omega)).trans (hs.2 k hk hb)⟩
theorem But.setCell {b : Nat} {A W : World} (h : But b A W) (o : Nat) (v : Value) : But b A (W.setCell ⟨b, o, none⟩ v) :=
  ⟨by rw [World.size_setCell]; exact h.1, fun k hk hb => (Below.heap_setCell W ⟨b, o, none⟩ v k hb).trans (h.2 k hk hb)⟩
theorem But.row {b b' : Nat} {A W : World} {zs : List Int} (h : But b A W) (R : RowAt A b' zs) (hb : b' ≠ b) : RowAt W b' zs := by
  have e := h.2 b' R.lt hb
  exact ⟨fun k hk => (World.cell?_of_block (w := A) e).trans (R.cell k hk), fun k hk => (World.frozen?_of_block (w := A) e).trans (R.free k hk), Nat.lt_of_lt_of_le R.lt h.1⟩
theorem But.at2 {b b' : Nat} {A W : World} {x y : Value} (h : But b A W) (R : At2 A b' x y) (hb : b' ≠ b) : At2 W b' x y := by
  have e := h.2 b' R.lt hb
  exact ⟨(World.cell?_of_block (w := A) e).trans R.c0, (World.cell?_of_block (w := A) e).trans R.c1, (World.frozen?_of_block (w := A) e).trans R.f0, (World.frozen?_of_block (w := A) e).trans R.f1⟩
theorem equalIn_nilFunc {P : Program} (d : Nat) {t : TypeId} {ps rs : Array TypeId} {v : Bool} (h : P.underlying t = some (.func ps rs v)) (f : Fn) (x y : Array Value) (w : World) : (Op.equalIn (d + 1) t (.func f x y) .nilFunc).run P w = .ok false w := by
  simp [Op.equalIn, run_underlying h]
theorem eql_nilFunc {P : Program} {t : TypeId} {ps rs : Array TypeId} {v : Bool} (h : P.underlying t = some (.func ps rs v)) (f : Fn) (x y : Array Value) (w : World) : (binOp .eql t (.func f x y) .nilFunc).run P w = .ok (.bool false) w := by
  simp only [binOp]
  simp [Op.equal, Op.maxDepth, equalIn_nilFunc 9999 h f x y w]
theorem KeepsIn.setCell {L U b : Nat} (hb : b < L) (W : World) (o : Nat) (v : Value) : KeepsIn L U W (W.setCell ⟨b, o, none⟩ v) :=
  ⟨by rw [World.size_setCell]; exact Nat.le_refl _, fun k hk _ => Below.heap_setCell W ⟨b, o, none⟩ v k (by show k ≠ b; omega)⟩
/-- What the guard's loop adds up. -/
def sumB : List (Int × Int) → Int := List.foldl (fun s p => wrap64 (s + wrap64 (p.1 * p.2))) 0
theorem sumB_snoc (pre : List (Int × Int)) (x : Int × Int) : sumB (pre ++ [x]) = wrap64 (sumB pre + wrap64 (x.1 * x.2)) := by simp [sumB]

set_option maxRecDepth 100000 in
set_option maxHeartbeats 4000000 in
theorem alive5_any (G : HistC) (w : World) :
    Calls Try.prog 8 #[] w fun e w' => e = .returned (.bool true) ∧ Below w.heap.size w w' := by
  have C1 := Lib.hid fun g W (hg : Hid (g = W.heap.size)) => G.of (.slice (some ⟨g, 0, none⟩) 4 4) [0, 1, 1, 5] (W.alloc (.cells #[.int .i64 0, .int .i64 1, .int .i64 1, .int .i64 5] 2)) (Lst.fresh W [0, 1, 1, 5] 2 g hg) (by decide) (by decide)
  have C2 : Hid (∀ W, Calls Try.prog 11 #[.int .i64 4] W fun e w' => e = .returned (.tuple #[.agg #[.int .i64 4, .int .i64 7], .bool true]) ∧ Below W.heap.size W w') := Lib.hid fun W => G.bounds 4 W (by decide)
  have C3 := Lib.hid fun W => G.none 65 W (by decide) (Or.inr (by decide))
  have hL := histOf_length [0, 1, 1, 5]
  have hF := histOf_fits (zs := [0, 1, 1, 5]) (by decide)
  have hLm := histOf_length [0, 1, 1, 5, 0, 1, 1, 5]
  have hLa := histOf_length [0, 1, 1, 5, -9]
  have C4 := Lib.hid fun g W (hg : Hid (g = W.heap.size)) => G.merge (.slice (some ⟨g, 0, none⟩) 2 2) [histOf [0, 1, 1, 5], histOf [0, 1, 1, 5]] (W.alloc (.cells (twoRows (histOf [0, 1, 1, 5]) (histOf [0, 1, 1, 5])) 33)) (RowsS.two W _ _ hL hL _ g hg) (by intro r hr; simp at hr; subst hr; exact hF) (by decide)
  rw [merge_parts (xs := [0, 1, 1, 5]) (ys := [0, 1, 1, 5]) (by decide)] at C4
  have C5 := Lib.hid fun W => G.add (histOf [0, 1, 1, 5]) (-9) W hL hF (by decide)
  rw [merge_parts (xs := [0, 1, 1, 5]) (ys := [-9]) (by decide)] at C5
  have C6 : Hid (∀ W, Calls Try.prog 27 #[.int .i64 2] W fun e w' => e = .returned (.agg #[.int .i64 0, .int .u64 2]) ∧ Below W.heap.size W w') := Lib.hid fun W => G.wide 2 W (by decide)
  have c7 := fun W => G.rank (histOf [0, 1, 1, 5]) 0 2 W hL hF (by decide) (by decide) (by decide)
  rw [show rankV (histOf [0, 1, 1, 5]) 0 2 = 2 by decide +kernel] at c7
  have C7 : Hid (∀ W, Calls Try.prog 24 #[rowV (histOf [0, 1, 1, 5]), .agg #[.int .i64 0, .int .u64 2]] W fun e w' => e = .returned (.tuple #[.int .i64 2, .bool true]) ∧ Below W.heap.size W w') := Lib.hid c7
  have C8 := Lib.hid fun W => G.full (histOf [0, 1, 1, 5]) W hL hF
  rw [show fullL (histOf [0, 1, 1, 5]) = [(1, 1), (2, 2), (4, 1)] by decide +kernel] at C8
  have c9 := fun W => G.total (histOf [0, 1, 1, 5]) W hL hF
  rw [show (histOf [0, 1, 1, 5]).sum = 4 by decide +kernel] at c9
  have C9 : Hid (∀ W, Calls Try.prog 23 #[rowV (histOf [0, 1, 1, 5])] W fun e w' => e = .returned (.agg #[.int .i64 0, .int .u64 4]) ∧ Below W.heap.size W w') := Lib.hid c9
  have C10 : Hid (∀ W, Calls Try.prog 27 #[.int .i64 4] W fun e w' => e = .returned (.agg #[.int .i64 0, .int .u64 4]) ∧ Below W.heap.size W w') := Lib.hid fun W => G.wide 4 W (by decide)
  have C11 : Hid (∀ W, Calls Try.prog 9 #[.int .i64 4611686018427387904] W fun e w' => e = .returned (.int .i64 64) ∧ Below W.heap.size W w') := Lib.hid fun W => G.bucket 4611686018427387904 W (by decide)
  clear G c7 c9
  unfold RowE at C4 C5
  dsimp only at C4 C5
  have K1 := Lib.hid fun W b R => hs_at [0, 1, 1, 5] (W := W) (b := b) R 1 (by decide) 1 (by decide)
  have K2 := Lib.hid fun W b R => hs_at [0, 1, 1, 5] (W := W) (b := b) R 2 (by decide) 2 (by decide)
  have K4 := Lib.hid fun W b R => hs_at [0, 1, 1, 5] (W := W) (b := b) R 4 (by decide) 1 (by decide)
  have K0 := Lib.hid fun W b R => hs_at [0, 1, 1, 5] (W := W) (b := b) R 0 (by decide) 0 (by decide)
  have KM := Lib.hid fun W b R => hs_at [0, 1, 1, 5, 0, 1, 1, 5] (W := W) (b := b) R 2 (by decide) 4 (by decide)
  have KA := Lib.hid fun W b R => hs_at [0, 1, 1, 5, -9] (W := W) (b := b) R 0 (by decide) 1 (by decide)
  simp only [List.cons_append, List.nil_append] at C4 C5
  generalize histOf [0, 1, 1, 5] = hs at *
  generalize histOf [0, 1, 1, 5, 0, 1, 1, 5] = ms at *
  generalize histOf [0, 1, 1, 5, -9] = az at *
  replace hL := Lib.hid hL
  replace hLm := Lib.hid hLm
  replace hLa := Lib.hid hLa
  clear hF
  have hz0 := zeroH
  have hu := Try.underlying33
  have hB := Below.refl w.heap.size w
  refine (callsIn_wide (n := 8)).1 ?_
  refine callsIn_of_wp_marks Try.func8 rfl trivial ?_ rfl
  simp only [Try.ntmps8, List.size_toArray, List.length_nil, Nat.reduceSub, Array.replicate_succ, Array.replicate_zero, List.push_toArray, List.append_toArray, List.nil_append, List.cons_append]
  refine wpIn_wide.2 ?_
  go_wp2_with fail
  replace hB := ext_alloc hB (.cells #[.int .i64 0, .int .i64 1, .int .i64 1, .int .i64 5] 2)
  refine (C1.out _ _ (Lib.hid rfl)).mono ?_; rintro e w1 ⟨rfl, h⟩
  replace hB := ext_step hB h
  clear h
  go_wp2_with (refine wpList_store_mid rfl _ (.tmp 1) (.tmp 17) rfl _ 0 _ rfl rfl (there_new w1 hs hL.out) (infoHs hs hL.out) (row_one _) ?_)
  have R1 := row_stored w1 hs hL.out
  replace hB := below_stored hB hs
  generalize (w1.alloc zobj).setCells w1.heap.size 0 ((hs.map (Value.int .i64)).toArray).toList = W1 at *
  generalize w1.heap.size = b1 at *
  refine (C2.out _).mono ?_; rintro e w2 ⟨rfl, h⟩
  replace hB := ext_step hB h
  replace R1 := R1.below h
  clear h
  have hG := At2.new w2 (.int .i64 4) (.int .i64 7) 25
  replace hB := ext_alloc hB (.cells #[.int .i64 4, .int .i64 7] 25)
  replace R1 := R1.alloc (.cells #[.int .i64 4, .int .i64 7] 25)
  go_upto_region 3 with fail
  generalize w2.alloc (.cells #[.int .i64 4, .int .i64 7] 25) = W2 at *
  generalize w2.heap.size = b2 at *
  go_wp2_with fail
  refine (C3.out _).mono ?_; rintro e w3 ⟨rfl, h⟩
  replace hB := ext_step hB h
  replace R1 := R1.below h
  replace hG := hG.below h
  clear h
  replace hB := ext_alloc hB (.cells #[.int .i64 0, .int .i64 0] 25)
  replace R1 := R1.alloc (.cells #[.int .i64 0, .int .i64 0] 25)
  replace hG := hG.alloc (.cells #[.int .i64 0, .int .i64 0] 25)
  go_upto_region 4 with fail
  generalize w3.alloc (.cells #[.int .i64 0, .int .i64 0] 25) = W3 at *
  generalize w3.heap.size = b3 at *
  have HR := Lib.hid R1.range
  go_wp2_with (first
    | (refine wpList_load_mid rfl _ (.tmp 1) rfl b1 0 rfl _ _ HR.out hu rfl (infoHl hs hL.out) ?_)
    | (refine wpList_two rfl (.tmp 27) (.tmp 28) rfl hs hs hL.out hL.out rfl rfl ?_))
  replace hB := ext_alloc hB (.cells (twoRows hs hs) 33)
  replace R1 := R1.alloc (.cells (twoRows hs hs) 33)
  replace hG := hG.alloc (.cells (twoRows hs hs) 33)
  refine (C4.out _ _ (Lib.hid rfl)).mono ?_; rintro e w4 ⟨rfl, h⟩
  replace hB := ext_step hB h
  replace R1 := R1.below h
  replace hG := hG.below h
  clear h HR
  go_upto_region 5 with (refine wpList_store_mid rfl _ (.tmp 6) (.tmp 31) rfl _ 0 _ rfl rfl (there_new w4 ms hLm.out) (infoHs ms hLm.out) (row_one _) ?_)
  have RM := row_stored w4 ms hLm.out
  have hx := below_own w4 ms
  replace R1 := R1.below hx
  replace hG := hG.below hx
  replace hB := below_stored hB ms
  clear hx
  generalize (w4.alloc zobj).setCells w4.heap.size 0 ((ms.map (Value.int .i64)).toArray).toList = W4 at *
  generalize w4.heap.size = b4 at *
  have HR := Lib.hid R1.range
  go_wp2_with (first
    | (refine wpList_load_mid rfl _ (.tmp 1) rfl b1 0 rfl _ _ HR.out hu rfl (infoHl hs hL.out) ?_))
  refine (C5.out _).mono ?_; rintro e w5 ⟨rfl, h⟩
  replace hB := ext_step hB h
  replace R1 := R1.below h
  replace RM := RM.below h
  replace hG := hG.below h
  clear h HR
  go_upto_region 6 with (refine wpList_store_mid rfl _ (.tmp 8) (.tmp 36) rfl _ 0 _ rfl rfl (there_new w5 az hLa.out) (infoHs az hLa.out) (row_one _) ?_)
  have RA := row_stored w5 az hLa.out
  have hx := below_own w5 az
  replace R1 := R1.below hx
  replace RM := RM.below hx
  replace hG := hG.below hx
  replace hB := below_stored hB az
  clear hx
  generalize (w5.alloc zobj).setCells w5.heap.size 0 ((az.map (Value.int .i64)).toArray).toList = W5 at *
  generalize w5.heap.size = b5 at *
  have hi := infoHl hs hL.out
  have hB1 := hB.drew
  have Q1 := R1.drew
  have QM := RM.drew
  have QA := RA.drew
  have QG := hG.drew
  have HB := Lib.hid hB
  have HR1 := Lib.hid R1
  go_region_held3 (fun w' => w'.rangeAt b1 0 (hs.map (Value.int .i64))) (first | exact R1.range | exact Q1.range)
    (first
      | (go_at_call 27; refine (C6.out _).mono ?_; rintro e w6 ⟨rfl, hq⟩; have h : Below W5.heap.size W5 w6 := ⟨hq.os, hq.tape, hq.output, hq.size, hq.block⟩; have hB1 := ext_step hB h; have Q1 := R1.below h; have QM := RM.below h; have QA := RA.below h; have QG := hG.below h; clear hq h)
      | (go_at_call 24; refine (C7.out _).mono ?_; rintro e w7 ⟨rfl, h⟩; have hB1 := ext_step hB1 h; have Q1 := Q1.below h; have QM := QM.below h; have QA := QA.below h; have QG := QG.below h; clear h))
  all_goals
    clear hB R1 RM RA hG HB HR1
    have n1 : b1 < w7.heap.size := Q1.lt
    have n2 : b2 < w7.heap.size := QG.lt
    have n4 : b4 < w7.heap.size := QM.lt
    have n5 : b5 < w7.heap.size := QA.lt
    replace Q1 := Q1.alloc (.cells #[.int .i64 0] 3)
    replace QM := QM.alloc (.cells #[.int .i64 0] 3)
    replace QA := QA.alloc (.cells #[.int .i64 0] 3)
    replace QG := QG.alloc (.cells #[.int .i64 0] 3)
    have hB7 := ext_alloc hB1 (.cells #[.int .i64 0] 3)
    have N1 := World.cell?_alloc_new (w := w7) #[.int .i64 0] 3 0
    have N2 : (w7.alloc (.cells #[.int .i64 0] 3)).frozen? ⟨w7.heap.size, 0, none⟩ = false := by simp
    have N3 : w.heap.size ≤ w7.heap.size := hB1.size
    clear hB1
    go_upto_region 8 with fail
    generalize w7.alloc (.cells #[.int .i64 0] 3) = W7 at *
    generalize w7.heap.size = bn at *
    have HR := Lib.hid Q1.range
    go_wp2_with (first
      | (refine wpList_load_mid rfl _ (.tmp 1) rfl b1 0 rfl _ _ HR.out hu rfl hi ?_))
    refine (C8.out _).mono ?_; rintro e w8 ⟨h, gf, lb, rfl, eg, hseq⟩
    replace Q1 := Q1.below h
    replace QM := QM.below h
    replace QA := QA.below h
    replace QG := QG.below h
    have hB8 := ext_step hB7 h
    have N4 : bn < W7.heap.size := World.block_lt_of_cell? _ _ N1
    have N5 : w8.cell? ⟨bn, 0, none⟩ = some (.int .i64 0) := (h.cell (p := ⟨bn, 0, none⟩) N4).trans N1
    have N6 : w8.frozen? ⟨bn, 0, none⟩ = false := (h.frozen (p := ⟨bn, 0, none⟩) N4).trans N2
    have HSQ := Lib.hid (hseq w8 ⟨Nat.le_refl _, fun _ _ _ => rfl⟩ (Int × Int) encB [(1, 1), (2, 2), (4, 1)] rfl)
    have hsz8 := h.size
    have EG := Lib.hid eg
    replace N1 := Lib.hid N1
    replace N2 := Lib.hid N2
    have hbn8 : bn < w8.heap.size := Nat.lt_of_lt_of_le N4 hsz8
    clear h hseq eg HR
    have hnil : ∀ W, (binOp .eql 59 (.func (.func gf) #[] lb) .nilFunc).run Try.prog W = .ok (.bool false) W := fun W => eql_nilFunc Try.underlying59 _ _ _ W
    go_wp2_with fail
    generalize hact : ({ tmps := _, defers := [] } : Act) = act
    refine (wpIn_wide (n := 8)).1 ?_
    refine wpIn_rangeFunc_ownF rfl (by decide) (gf := gf) (lb := lb) (by rw [← hact]; rfl) trivial EG.out HSQ.out KeepsIn.trans (KeepsIn.putObj (Nat.le_refl _)) (Below.refl _ _) (fun _ => rfl)
      (fun pre W => (W.cell? ⟨bn, 0, none⟩ = some (.int .i64 (sumB pre)) ∧ W.frozen? ⟨bn, 0, none⟩ = false) ∧ But bn w8 W ∧ Below w.heap.size w W)
      (fun _ _ _ => False)
      (OwnFrom.and (Own.from (fun s A B row hs hg hr => ⟨cell_kept hs.1 hg hr, (frozen_kept hs.1 hg hr).trans hs.2⟩) _) (OwnFrom.and (But.own (Nat.le_refl _)) (ownFrom_below (Nat.le_refl _) hB8.size)))
      (fun _ _ _ _ _ hs _ _ => hs)
      ⟨⟨N5, N6⟩, But.refl _ _, hB8⟩
      (fun x => { tmps := (((act.tmps.setIfInBounds 49 (.int .i64 x.1)).setIfInBounds 50 (.int .i64 x.2)).setIfInBounds 14 (.int .i64 x.1)).setIfInBounds 15 (.int .i64 x.2), defers := [] }) ?assign ?body ?done ?stop
    case assign =>
      intro l x W K hK
      subst hact
      gi_wp2
      exact hK
    case body =>
      rintro l pre x W ⟨⟨hc, hf⟩, hBt, hBl⟩ _
      subst hact
      gi_wp2
      exact ⟨KeepsOthers.setCell _ _ _, KeepsIn.setCell N4 _ _ _, ⟨by rw [sumB_snoc]; exact World.cell?_setCell_same' _ _ _ (by rw [hc]; rfl), by rw [World.frozen?_setCell]; exact hf⟩, hBt.setCell _ _, hBl.setCell (p := ⟨bn, 0, none⟩) N3 _⟩
    case done =>
      rintro D xs W hD rfl ⟨⟨hc, hf⟩, hBt, hBl⟩ hDf
      rw [show sumB [(1, 1), (2, 2), (4, 1)] = 9 by decide +kernel] at hc
      have S1 := hBt.row Q1 (by omega)
      have SM := hBt.row QM (by omega)
      have SA := hBt.row QA (by omega)
      have SG := hBt.at2 QG (by omega)
      have HR := Lib.hid S1.range
      have k1 := K1.out _ _ S1
      have k2 := K2.out _ _ S1
      have k4 := K4.out _ _ S1
      have k0 := K0.out _ _ S1
      have km := KM.out _ _ SM
      have ka := KA.out _ _ SA
      obtain ⟨g0, g1, -, -⟩ := id SG
      replace hBt := Lib.hid hBt
      replace hBl := Lib.hid hBl
      replace hDf := Lib.hid hDf
      clear Q1 QM QA QG N1 N2 N5 N6 HSQ EG hz0 K1 K2 K4 K0 KM KA hnil
      subst hact
      have hld : (Instr.loadAt 33 (.pointer (some ⟨b1, 0, none⟩))).run Try.prog W = .ok (rowV hs) W := run_loadAt_mid W b1 0 _ _ _ HR.out hu rfl hi
      go_upto_region 15 with fail
      simp only [List.append_eq, List.cons_append, List.nil_append]
      go_wp2_with (refine BigFrame.wpList_want rfl fun K hK => wp_load_mid _ (.tmp 1) rfl b1 0 rfl _ _ HR.out hu rfl hi (hK _ _ ?_))
      refine (C9.out _).mono ?_; rintro e v1 ⟨rfl, h⟩
      have hK1 : Hid (v1.heap[D]? = some (.deferred (some []))) := Lib.hid ((h.block D (Array.getElem?_eq_some_iff.1 hDf.out).1).trans hDf.out)
      have hB1 := Lib.hid (ext_step hBl.out h)
      clear h k1 k2 k4 k0 km ka g0 g1 S1 SM SA SG hc hf
      go_wp2_with fail
      refine (C10.out _).mono ?_; rintro e v2 ⟨rfl, h⟩
      have hK2 : Hid (v2.heap[D]? = some (.deferred (some []))) := Lib.hid ((h.block D (Array.getElem?_eq_some_iff.1 hK1.out).1).trans hK1.out)
      have hB2 := Lib.hid (ext_step hB1.out h)
      clear h
      go_wp2_with fail
      refine (C11.out _).mono ?_; rintro e v3 ⟨rfl, h⟩
      have hK3 := (h.block D (Array.getElem?_eq_some_iff.1 hK2.out).1).trans hK2.out
      have hB3 := Lib.hid (ext_step hB2.out h)
      clear h
      replace hK3 := Lib.hid hK3
      go_wp2_with fail
      refine ⟨by simp, .inl ⟨_, _, rfl, run_takeDeferred hK3.out, ?_⟩⟩
      exact ⟨_, results_tmp rfl _ _ _, rfl, hB3.out.trans (belowK_b (w := w) (Nat.le_refl _) v3 D _ _ (Nat.le_trans hB8.size hD) hK3.out rfl rfl)⟩
    case stop =>
      rintro D c pre W _ _ h _
      exact h.elim
end

section
open Go.RowKit

theorem histP (G : HistC) : HistP := ⟨alive5_any G, G.bucket, G.bounds, G.none, G.right, G.has⟩
theorem histO (G : HistC) : HistO := ⟨alive5_any G, G.bucket, G.of, G.wide, G.rank⟩
end
end Go.Proofs.Ytmafkknnekkcdaa
