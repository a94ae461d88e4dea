/- Labels of the call's own in memory: how they stand when other blocks change; one set anew. -/
import Derived.Test.YteiilmnehdbdiaaGreatDoorLabM
import Derived.Laws.OwnMore
namespace Go.Proofs.YteiilmnehdbdiaaGreatDoor
open Go.RowKit

/-- A variable of two cells below what may have changed. -/
theorem At2.low {w w1 : World} {b B : Nat} {x y : Value} (a : At2 w b x y) (hb : Below B w w1) (h : b < B) : At2 w1 b x y :=
  ⟨(hb.cell (p := ⟨b, 0, none⟩) h).trans a.c0, (hb.cell (p := ⟨b, 1, none⟩) h).trans a.c1, (hb.frozen (p := ⟨b, 0, none⟩) h).trans a.f0, (hb.frozen (p := ⟨b, 1, none⟩) h).trans a.f1⟩
theorem lab_src (wr : World) (x y : Value) (t : TypeId) (g : Nat) (hg : Hid (g = wr.heap.size)) : SrcV (wr.alloc (.cells #[x, y] t)) (some ⟨g, 0, none⟩) 1 [x, y] := by
  have hg := hg.out; subst hg
  exact fun _ => ⟨_, rfl, two_cells wr x y t⟩
/-- A list that a call's own row has grown by one. -/
theorem OwnB.grew {t : TypeId} {wr w1 : World} {B : Nat} {v v' : Value} {gs : List Lab} {x y : ByteArray} {o : Obj} (hown : OwnB t wr B v gs) (hsz : B ≤ wr.heap.size)
    (h' : w1.ownsRow B t 2 v' (gs.length + 1) (cellsB gs ++ [.string x, .string y])) (hg : (wr.alloc o).grownBy w1 v.ownBlock) : OwnB t w1 B v' (gs ++ [(x, y)]) ∧ Below B wr w1 :=
  hown.grow (g := (x, y)) (Below.refl B wr) hsz h' hg
section
variable {t : TypeId} {w w1 : World} {B B' g n c : Nat} {v : Value} {gs : List Lab}
theorem OwnB.block_ (h : OwnB t w B v gs) (hb : ∀ i, B ≤ i → i < w.heap.size → w1.heap[i]? = w.heap[i]?) : OwnB t w1 B v gs := by
  refine ⟨h.1, ?_⟩
  rcases h.2 with h0 | ⟨g, cap, cur, rfl, hg, hh, h2⟩
  · exact .inl h0
  · have hl := World.ownsRow.lt h g rfl
    exact .inr ⟨g, cap, cur, rfl, hg, (hb g hl.1 hl.2).trans hh, h2⟩
theorem OwnB.drew (h : OwnB t w B v gs) : OwnB t w.drew B v gs := h.block_ fun _ _ _ => rfl
theorem OwnB.drewN (h : OwnB t w B v gs) (n : Nat) : OwnB t (w.drewN n) B v gs := h.block_ fun _ _ _ => rfl
theorem OwnB.alloc_ (h : OwnB t w B v gs) (o : Obj) : OwnB t (w.alloc o) B v gs := h.below (below_new w o)
theorem OwnB.away (h : OwnB t w B v gs) {p : Addr} (hp : p.block < B) (u : Value) : OwnB t (w.setCell p u) B v gs := h.block_ fun i hi _ => Below.heap_setCell w p u i (by omega)
theorem OwnB.less (h : OwnB t w B v gs) (hB : B' ≤ B) : OwnB t w B' v gs := by
  refine ⟨h.1, ?_⟩
  rcases h.2 with h0 | ⟨g, cap, cur, rfl, hg, hh, h2⟩
  · exact .inl h0
  · exact .inr ⟨g, cap, cur, rfl, Nat.le_trans hB hg, hh, h2⟩
theorem OwnB.nil_ (t : TypeId) (w : World) (B : Nat) : OwnB t w B (.slice none 0 0) [] := ⟨rfl, .inl ⟨rfl, rfl⟩⟩
theorem OwnB.val (h : OwnB t w B v gs) : ∃ A c, v = .slice A gs.length c := h.labs.len
theorem OwnB.val1 {l : Lab} (h : OwnB t w B v (gs ++ [l])) : ∃ A c, v = .slice A (gs.length + 1) c := by
  obtain ⟨A, c, e⟩ := h.val
  exact ⟨A, c, by rw [e, List.length_append]; rfl⟩
theorem OwnB.form (h : OwnB t w B v gs) (hn : 0 < gs.length) : ∃ g c, v = .slice (some ⟨g, 0, none⟩) gs.length c ∧ B ≤ g ∧ g < w.heap.size := by
  have hlt := World.ownsRow.lt h
  rcases h.2 with ⟨_, h0⟩ | ⟨g, c, cur, rfl, hb, _⟩
  · omega
  · exact ⟨g, c, rfl, hb, (hlt g rfl).2⟩
theorem OwnB.slots (h : OwnB t w B (.slice (some ⟨g, 0, none⟩) n c) gs) : n = gs.length := by
  obtain ⟨A, c', e⟩ := h.val
  injection e
theorem OwnB.at_ (h : OwnB t w B (.slice (some ⟨g, 0, none⟩) n c) gs) {j : Nat} (hj : j < gs.length) :
    w.cell? ⟨g, j * 2, none⟩ = some (.string gs[j].1) ∧ w.cell? ⟨g, j * 2 + 1, none⟩ = some (.string gs[j].2) ∧ w.frozen? ⟨g, j * 2, none⟩ = false ∧ w.frozen? ⟨g, j * 2 + 1, none⟩ = false := by
  obtain rfl := h.slots
  obtain ⟨k1, k2⟩ := cellsB_at gs j hj
  have e : ∀ i, (Addr.mk g 0 none).add i = ⟨g, i, none⟩ := fun i => by unfold Addr.add; split <;> simp_all
  have h1 := h.cells (g := g) rfl _ _ k1
  have h2 := h.cells (g := g) rfl _ _ k2
  rw [e] at h1 h2
  exact ⟨h1, h2, World.ownsRow.frozenAt h _, World.ownsRow.frozenAt h _⟩
theorem cellsB_set : ∀ (gs : List Lab) (j : Nat) (l : Lab), j < gs.length → ((cellsB gs).set (j * 2) (.string l.1)).set (j * 2 + 1) (.string l.2) = cellsB (gs.set j l)
  | [], j, _, h => by simp at h
  | g :: t, 0, l, _ => rfl
  | g :: t, j + 1, l, h => by
    have h' := cellsB_set t j l (by simpa using h)
    have e : (j + 1) * 2 = j * 2 + 1 + 1 := by omega
    rw [e]
    show Value.string g.1 :: Value.string g.2 :: (((cellsB t).set (j * 2) _).set (j * 2 + 1) _) = _
    rw [h']
    rfl
theorem OwnB.set_ (h : OwnB t w B (.slice (some ⟨g, 0, none⟩) n c) gs) {j : Nat} (hj : j < gs.length) (l : Lab) :
    OwnB t ((w.setCell ⟨g, j * 2, none⟩ (.string l.1)).setCell ⟨g, j * 2 + 1, none⟩ (.string l.2)) B (.slice (some ⟨g, 0, none⟩) n c) (gs.set j l) ∧ Below B w ((w.setCell ⟨g, j * 2, none⟩ (.string l.1)).setCell ⟨g, j * 2 + 1, none⟩ (.string l.2)) := by
  have hlt := World.ownsRow.lt h g rfl
  obtain rfl := h.slots
  refine ⟨?_, ((Below.refl B w).setCell hlt.1 _).setCell hlt.1 _⟩
  unfold OwnB
  rw [List.length_set, ← cellsB_set gs j l hj]
  exact (World.ownsRow.stored (World.ownsRow.stored h _ _).1 _ _).1
end
end Go.Proofs.YteiilmnehdbdiaaGreatDoor
