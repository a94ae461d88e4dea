/- Labels in memory (slices of structs of two texts): read, owned, written out, copied from. -/
import Derived.Test.YteiilmnehdbdiaaGreatDoorMem
import Derived.Test.YteiilmnehdbdiaaGreatDoorAppend
import Derived.Test.YteiilmnehdbdiaaGreatDoorLab
import Derived.OwnWalk
namespace Go.Proofs.YteiilmnehdbdiaaGreatDoor
open Go.RowKit

/-- The slice value reads as the list of labs, below block B. -/
def Labs (w : World) (B : Nat) (v : Value) (gs : List Lab) : Prop :=
  ∃ (A : Option Addr) (c : Nat), v = .slice A gs.length c ∧ gs.length ≤ c ∧
    (0 < gs.length → ∃ ad, A = some ad ∧ ad.block < B ∧ ∀ j (h : j < gs.length), w.cell? (ad.add (j * 2)) = some (.string gs[j].1) ∧ w.cell? (ad.add (j * 2 + 1)) = some (.string gs[j].2))
section
variable {w w' : World} {B B' : Nat} {v : Value} {gs : List Lab}
theorem Labs.keep (h : Labs w B v gs) (hk : ∀ p : Addr, p.block < B → w'.cell? p = w.cell? p) : Labs w' B v gs := by
  obtain ⟨A, c, rfl, hc, hr⟩ := h
  refine ⟨A, c, rfl, hc, fun hn => ?_⟩
  obtain ⟨ad, e, hb, hcell⟩ := hr hn
  exact ⟨ad, e, hb, fun j hj => ⟨(hk _ (by rw [block_of_add]; exact hb)).trans (hcell j hj).1, (hk _ (by rw [block_of_add]; exact hb)).trans (hcell j hj).2⟩⟩
theorem Labs.more (h : Labs w B v gs) (hB : B ≤ B') : Labs w B' v gs := by
  obtain ⟨A, c, rfl, hc, hr⟩ := h
  refine ⟨A, c, rfl, hc, fun hn => ?_⟩
  obtain ⟨ad, e, hb, hcell⟩ := hr hn
  exact ⟨ad, e, by omega, hcell⟩
theorem Labs.below (h : Labs w B v gs) (hb : Below B w w') : Labs w' B v gs := h.keep fun _ hp => hb.cell hp
theorem Labs.nil (w : World) (B : Nat) : Labs w B (.slice none 0 0) [] := ⟨none, 0, rfl, Nat.le_refl _, fun h => absurd h (by simp)⟩
theorem Labs.len (h : Labs w B v gs) : ∃ A c, v = .slice A gs.length c := by obtain ⟨A, c, h, _⟩ := h; exact ⟨A, c, h⟩
end
/-- The cells of labs. -/
def cellsB (gs : List Lab) : List Value := gs.flatMap fun g => [.string g.1, .string g.2]
theorem cellsB_length (gs : List Lab) : (cellsB gs).length = gs.length * 2 := by
  induction gs with
  | nil => rfl
  | cons g t ih => show (_ :: _ :: cellsB t).length = _; simp [ih]; omega
theorem cellsB_at : ∀ (gs : List Lab) (j : Nat) (h : j < gs.length), (cellsB gs)[j * 2]? = some (.string gs[j].1) ∧ (cellsB gs)[j * 2 + 1]? = some (.string gs[j].2)
  | [], j, h => by simp at h
  | g :: t, 0, _ => ⟨rfl, rfl⟩
  | g :: t, j + 1, h => by
    have h' := cellsB_at t j (by simpa using h)
    have e : (j + 1) * 2 = j * 2 + 1 + 1 := by omega
    rw [e]
    exact ⟨h'.1, h'.2⟩
theorem cellsB_snoc (gs : List Lab) (g : Lab) : cellsB gs ++ [.string g.1, .string g.2] = cellsB (gs ++ [g]) := by
  unfold cellsB; rw [List.flatMap_append]; rfl
/-- A row of labs that the call itself made: t their type. -/
def OwnB (t : TypeId) (w : World) (B : Nat) (v : Value) (gs : List Lab) : Prop := w.ownsRow B t 2 v gs.length (cellsB gs)
theorem OwnB.labs {t : TypeId} {w : World} {B : Nat} {v : Value} {gs : List Lab} (h : OwnB t w B v gs) : Labs w w.heap.size v gs := by
  rcases h.2 with ⟨rfl, hn⟩ | ⟨g, cap, cur, rfl, hb, hh, hc, _⟩
  · have e : gs = [] := List.eq_nil_of_length_eq_zero hn
    subst e; exact Labs.nil _ _
  · refine ⟨_, _, rfl, hc, fun hn => ⟨_, rfl, (h.lt g rfl).2, fun j hj => ?_⟩⟩
    obtain ⟨k1, k2⟩ := cellsB_at gs j hj
    exact ⟨h.cells (g := g) rfl _ _ k1, h.cells (g := g) rfl _ _ k2⟩

theorem OwnB.below {t : TypeId} {w w1 : World} {B : Nat} {v : Value} {gs : List Lab} (h : OwnB t w B v gs) (hb : Below w.heap.size w w1) : OwnB t w1 B v gs := by
  refine ⟨h.1, ?_⟩
  rcases h.2 with h0 | ⟨g, cap, cur, rfl, hg, hh, h2⟩
  · exact .inl h0
  · exact .inr ⟨g, cap, cur, rfl, hg, (hb.block g (World.ownsRow.lt h g rfl).2).trans hh, h2⟩
theorem OwnB.empty (t : TypeId) (w : World) : OwnB t (w.alloc (.cells #[] t)) w.heap.size (.slice (some ⟨w.heap.size, 0, none⟩) 0 0) [] :=
  World.ownsRow_lit w #[] 0 (Nat.le_refl _) (by simp [maxLen]) rfl
theorem OwnB.grow {t : TypeId} {w wr w1 : World} {B : Nat} {v v' : Value} {gs : List Lab} {g : Lab} {o : Obj} (hown : OwnB t wr B v gs) (hbel : Below B w wr) (hsz : B ≤ wr.heap.size)
    (h' : w1.ownsRow B t 2 v' (gs.length + 1) (cellsB gs ++ [.string g.1, .string g.2])) (hg : (wr.alloc o).grownBy w1 v.ownBlock) : OwnB t w1 B v' (gs ++ [g]) ∧ Below B w w1 := by
  constructor
  · rw [cellsB_snoc] at h'; unfold OwnB; simpa using h'
  · exact (hbel.alloc hsz o).grown hg (by simp; omega) (fun k hk => (World.ownsRow.lt hown k hk).1)
theorem two_cells (wr : World) (x y : Value) (t : TypeId) : ∀ j u, [x, y][j]? = some u → (wr.alloc (.cells #[x, y] t)).cell? ((⟨wr.heap.size, 0, none⟩ : Addr).add j) = some u := by
  intro j u hj
  match j, hj with
  | 0, hj => simp at hj; subst hj; simp [Addr.add]
  | 1, hj => simp at hj; subst hj; simp [Addr.add]
theorem two_strs (x y : ByteArray) : ∀ u ∈ [Value.string x, Value.string y], u.oneCell' = true := by
  intro u hu; simp at hu; rcases hu with rfl | rfl <;> rfl
theorem Labs.new (w : World) (t : TypeId) (cs : Array Value) (gs : List Lab) (hcs : cs = (cellsB gs).toArray) : Labs (w.alloc (.cells cs t)) (w.alloc (.cells cs t)).heap.size (.slice (some ⟨w.heap.size, 0, none⟩) gs.length gs.length) gs := by
  subst hcs
  rw [World.size_alloc]
  refine ⟨_, _, rfl, Nat.le_refl _, fun hn => ⟨_, rfl, Nat.lt_succ_self _, fun j hj => ?_⟩⟩
  have e : ∀ j, (Addr.mk w.heap.size 0 none).add j = ⟨w.heap.size, j, none⟩ := fun j => by unfold Addr.add; split <;> simp_all
  obtain ⟨h0, h1⟩ := cellsB_at gs j hj
  rw [e, e, World.cell?_alloc_new, World.cell?_alloc_new]
  exact ⟨by simpa using h0, by simpa using h1⟩
/-- A call over a list of labs that was just written out. -/
theorem Labs.fresh (w : World) (t : TypeId) (cs : Array Value) (gs : List Lab) (hcs : cs = (cellsB gs).toArray) (g : Nat) (hg : Hid (g = w.heap.size)) : Labs (w.alloc (.cells cs t)) (w.alloc (.cells cs t)).heap.size (.slice (some ⟨g, 0, none⟩) gs.length gs.length) gs := by
  have hg := hg.out; subst hg
  exact Labs.new w t cs gs hcs
theorem Labs.src {w w' : World} {B : Nat} {A : Option Addr} {n c : Nat} {gs : List Lab} (h : Labs w B (.slice A n c) gs) (hk : ∀ p : Addr, p.block < B → w'.cell? p = w.cell? p) : SrcV w' A gs.length (cellsB gs) := by
  obtain ⟨A', c', e, _, hr⟩ := h
  injection e with e1 e2 e3
  subst e1
  intro hn
  obtain ⟨ad, ea, hb, hc⟩ := hr hn
  refine ⟨ad, ea, fun j u hu => ?_⟩
  have hj := (List.getElem?_eq_some_iff.1 hu).1
  rw [cellsB_length] at hj
  obtain ⟨i, hi, hij⟩ : ∃ i, i < gs.length ∧ (j = i * 2 ∨ j = i * 2 + 1) := ⟨j / 2, by omega, by omega⟩
  obtain ⟨k1, k2⟩ := cellsB_at gs i hi
  rw [hk _ (by rw [block_of_add]; exact hb)]
  rcases hij with rfl | rfl
  · rw [k1] at hu; injection hu with hu; subst hu; exact (hc i hi).1
  · rw [k2] at hu; injection hu with hu; subst hu; exact (hc i hi).2
theorem Labs.at_ {w : World} {B : Nat} {A : Option Addr} {n c : Nat} {gs : List Lab} (h : Labs w B (.slice A n c) gs) (hn : 0 < gs.length) :
    ∃ ad, A = some ad ∧ ad.block < B ∧ ∀ j (h : j < gs.length), w.cell? (ad.add (j * 2)) = some (.string gs[j].1) ∧ w.cell? (ad.add (j * 2 + 1)) = some (.string gs[j].2) := by
  obtain ⟨A', c', e, _, hr⟩ := h
  injection e with e1 e2 e3
  subst e1
  exact hr hn
theorem cellsB_one (gs : List Lab) : ∀ u ∈ cellsB gs, u.oneCell' = true := by
  intro u hu
  unfold cellsB at hu
  obtain ⟨g, _, hg⟩ := List.mem_flatMap.1 hu
  simp at hg
  rcases hg with rfl | rfl <;> rfl
theorem own_labs {t : TypeId} {w w1 w2 : World} {v2 : Value} {gs : List Lab} {n : Nat} (hn : n = gs.length) (hB : Below w.heap.size w w1) (h : w2.ownsRow w1.heap.size t 2 v2 (0 + n) ([] ++ cellsB gs)) (hg : (w1.alloc (.cells #[] t)).grownBy w2 (Value.slice (some ⟨w1.heap.size, 0, none⟩) 0 0).ownBlock) :
    Labs w2 w2.heap.size v2 gs ∧ Below w.heap.size w w2 := by
  subst hn
  have h' : OwnB t w2 w1.heap.size v2 gs := by unfold OwnB; simpa using h
  exact ⟨h'.labs, hB.trans (((below_new w1 (.cells #[] t)).grown hg (by simp) (fun j hj => ((OwnB.empty t w1).lt j hj).1)).mono hB.size)⟩
end Go.Proofs.YteiilmnehdbdiaaGreatDoor
