/- Rows of gaps that a call owns; law 3's all, walked. -/
import Derived.Test.YthkeofpmappdhaaGapR
import Derived.Test.YthkeofpmappdhaaAppend
import Derived.OwnWalk
namespace Go.Proofs.Ythkeofpmappdhaa
open Go.RowKit

/-- The cells of gaps. -/
def cellsG (gs : List (Int × Int)) : List Value := gs.flatMap fun g => [.int .i64 g.1, .int .i64 g.2]
theorem cellsG_length (gs : List (Int × Int)) : (cellsG gs).length = gs.length * 2 := by
  induction gs with
  | nil => rfl
  | cons g t ih => show (_ :: _ :: cellsG t).length = _; simp [ih]; omega
theorem cellsG_at : ∀ (gs : List (Int × Int)) (j : Nat) (h : j < gs.length), (cellsG gs)[j * 2]? = some (.int .i64 gs[j].1) ∧ (cellsG gs)[j * 2 + 1]? = some (.int .i64 gs[j].2)
  | [], j, h => by simp at h
  | g :: t, 0, _ => ⟨rfl, rfl⟩
  | g :: t, j + 1, h => by
    have h' := cellsG_at t j (by simpa using h)
    have e : (j + 1) * 2 = j * 2 + 1 + 1 := by omega
    rw [e]
    exact ⟨h'.1, h'.2⟩
theorem cellsG_snoc (gs : List (Int × Int)) (g : Int × Int) : cellsG gs ++ [.int .i64 g.1, .int .i64 g.2] = cellsG (gs ++ [g]) := by
  unfold cellsG; rw [List.flatMap_append]; rfl
/-- A row of gaps that the call itself made: t their type. -/
def OwnG (t : TypeId) (w : World) (B : Nat) (v : Value) (gs : List (Int × Int)) : Prop := w.ownsRow B t 2 v gs.length (cellsG gs)
theorem OwnG.gaps {t : TypeId} {w : World} {B : Nat} {v : Value} {gs : List (Int × Int)} (h : OwnG t w B v gs) : Gaps w w.heap.size v gs := by
  rcases h.2 with ⟨rfl, hn⟩ | ⟨g, cap, cur, rfl, hb, hh, hc, _⟩
  · have e : gs = [] := List.eq_nil_of_length_eq_zero hn
    subst e; exact Gaps.nil _ _
  · refine ⟨_, _, rfl, hc, fun hn => ⟨_, rfl, (h.lt g rfl).2, fun j hj => ?_⟩⟩
    obtain ⟨k1, k2⟩ := cellsG_at gs j hj
    exact ⟨h.cells (g := g) rfl _ _ k1, h.cells (g := g) rfl _ _ k2⟩

theorem OwnG.below {t : TypeId} {w w1 : World} {B : Nat} {v : Value} {gs : List (Int × Int)} (h : OwnG t w B v gs) (hb : Below w.heap.size w w1) : OwnG t w1 B v gs := by
  refine ⟨h.1, ?_⟩
  rcases h.2 with h0 | ⟨g, cap, cur, rfl, hg, hh, h2⟩
  · exact .inl h0
  · exact .inr ⟨g, cap, cur, rfl, hg, (hb.block g (World.ownsRow.lt h g rfl).2).trans hh, h2⟩
theorem OwnG.empty (t : TypeId) (w : World) : OwnG t (w.alloc (.cells #[] t)) w.heap.size (.slice (some ⟨w.heap.size, 0, none⟩) 0 0) [] :=
  World.ownsRow_lit w #[] 0 (Nat.le_refl _) (by simp [maxLen]) rfl
theorem OwnG.grow {t : TypeId} {w wr w1 : World} {B : Nat} {v v' : Value} {gs : List (Int × Int)} {g : Int × Int} {o : Obj} (hown : OwnG t wr B v gs) (hbel : Below B w wr) (hsz : B ≤ wr.heap.size)
    (h' : w1.ownsRow B t 2 v' (gs.length + 1) (cellsG gs ++ [.int .i64 g.1, .int .i64 g.2])) (hg : (wr.alloc o).grownBy w1 v.ownBlock) : OwnG t w1 B v' (gs ++ [g]) ∧ Below B w w1 := by
  constructor
  · rw [cellsG_snoc] at h'; unfold OwnG; simpa using h'
  · exact (hbel.alloc hsz o).grown hg (by simp; omega) (fun k hk => (World.ownsRow.lt hown k hk).1)
theorem pair_cells (wr : World) (x y : Value) (t : TypeId) : ∀ j u, [x, y][j]? = some u → (wr.alloc (.cells #[x, y] t)).cell? ((⟨wr.heap.size, 0, none⟩ : Addr).add j) = some u := by
  intro j u hj
  match j, hj with
  | 0, hj => simp at hj; subst hj; simp [Addr.add]
  | 1, hj => simp at hj; subst hj; simp [Addr.add]
theorem two_ints (x y : Int) : ∀ u ∈ [Value.int .i64 x, Value.int .i64 y], u.oneCell' = true := by
  intro u hu; simp at hu; rcases hu with rfl | rfl <;> rfl
theorem gap_info : (Try.prog.info? 31).map (fun i => (i.zero, i.size, i.bytes)) = some (some (.agg #[.int .i64 0, .int .i64 0]), 2, 16) := by kernel_rfl

set_option maxRecDepth 100000 in
set_option maxHeartbeats 2000000 in
theorem all3_any (v : Value) (gs : List (Int × Int)) (w : World) (hv : Gaps w w.heap.size v gs) (hn : gs.length ≤ 1000000) :
    Calls Try.prog 23 #[v] w fun e w' => ∃ u, e = .returned u ∧ OwnG 31 w' w.heap.size u gs ∧ Below w.heap.size w w' := by
  obtain ⟨i0, hi, hz0, hz1, hz2⟩ := info_parts gap_info
  obtain ⟨A, c, rfl, hc, hr⟩ := id hv
  have HR := Lib.hid hr
  have HN := Lib.hid hn
  clear hr hv hn
  go_enter Try.func23, Try.ntmps23
  go_wp2_with fail
  go_loopw [3, 4] (fun o i wr => ∃ k : Nat, k ≤ gs.length ∧ i = .int .i64 k ∧ OwnG 31 wr w.heap.size o (gs.take k) ∧ Below w.heap.size w wr) (fun _ i _ => gs.length - (intOf i).toNat)
  case atStart => exact ⟨0, Nat.zero_le _, rfl, OwnG.empty _ w, below_new _ _⟩
  case round =>
    obtain ⟨k, hk, rfl, hown, hB⟩ := hrel
    by_cases hlt : k < gs.length
    · obtain ⟨ad, rfl, hb, hcell⟩ := HR.out (by omega)
      rename_i wr _ _
      have c1 : _ = _ := (hB.cell (by rw [block_of_add]; exact hb)).trans (hcell k hlt).1
      have c2 : _ = _ := (hB.cell (by rw [block_of_add]; exact hb)).trans (hcell k hlt).2
      rw [add_succ] at c2
      have CO := Lib.hid (of3_any gs[k].1 gs[k].2)
      have HT : Hid (gs.take (k + 1) = gs.take k ++ [gs[k]]) := Lib.hid (List.take_succ_eq_append_getElem hlt)
      have HG : Hid (gs[k] = (gs[k].1, gs[k].2)) := Lib.hid rfl
      have HL : Hid ((gs.take k).length = k) := Lib.hid (by rw [List.length_take]; omega)
      clear hcell
      generalize gs[k].1 = a at *
      generalize gs[k].2 = b at *
      go_wp2_with fail
      refine (CO.out _).mono ?_; rintro e w1 ⟨rfl, h1⟩
      have hown1 := hown.below h1
      have hB1 := ext_step hB h1
      have hsz := hB1.size
      clear c1 c2 hown hB h1
      generalize gs.take k = ys at *
      have hn := HN.out
      go_wp2_with (at_builtin; go_must (refine wpList_append_own _ rfl (.tmp 12) (.tmp 18) 46 rfl w.heap.size 31 i0 (.agg #[.int .i64 0, .int .i64 0]) 2 16 Try.underlying46 hi hz0 hz1 hz2 rfl (by decide) _ ys.length (cellsG ys) rfl (World.ownsRow.alloc hown1 _) ⟨w1.heap.size, 0, none⟩ 1 1 [.int .i64 a, .int .i64 b] rfl rfl (pair_cells _ _ _ _) (two_ints _ _) (by have := HL.out; have := HN.out; unfold maxLen; omega) (by have := HL.out; have := HN.out; omega) (by simp; omega) ?_); intro v2 w2 hown2 hgrow2 _)
      have hN := hown1.grow (g := (a, b)) hB1 hsz hown2 hgrow2
      clear hown2 hgrow2 hown1 hB1
      go_wp2_with fail
      go_roundw
      case rel => exact ⟨k + 1, hlt, by go_num, by rw [HT.out, HG.out]; exact hN.1, hN.2⟩
      case measure => simp [intOf]; omega
    · obtain rfl : k = gs.length := by omega
      rw [List.take_length] at hown
      go_wp2_with fail
      go_ret
      exact ⟨_, rfl, hown, hB⟩
end Go.Proofs.Ythkeofpmappdhaa
