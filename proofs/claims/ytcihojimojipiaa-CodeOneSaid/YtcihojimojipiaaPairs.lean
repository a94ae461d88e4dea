/- Lists of pairs of longs in memory (slices of structs of two longs): read, owned, written out, copied from. -/
import Derived.Test.YtcihojimojipiaaAt2
import Derived.Test.YtcihojimojipiaaAppendV
import Derived.OwnWalk
namespace Go.Proofs.Ytcihojimojipiaa
open Go.RowKit

/-- The slice value reads as the list of gaps, below block B. -/
def Gaps (w : World) (B : Nat) (v : Value) (gs : List (Int × Int)) : Prop :=
  ∃ (A : Option Addr) (c : Nat), v = .slice A gs.length c ∧ gs.length ≤ c ∧
    (0 < gs.length → ∃ ad, A = some ad ∧ ad.block < B ∧ ∀ j (h : j < gs.length), w.cell? (ad.add (j * 2)) = some (.int .i64 gs[j].1) ∧ w.cell? (ad.add (j * 2 + 1)) = some (.int .i64 gs[j].2))
section
variable {w w' : World} {B B' : Nat} {v : Value} {gs : List (Int × Int)}
theorem Gaps.keep (h : Gaps w B v gs) (hk : ∀ p : Addr, p.block < B → w'.cell? p = w.cell? p) : Gaps w' B v gs := by
  obtain ⟨A, c, rfl, hc, hr⟩ := h
  refine ⟨A, c, rfl, hc, fun hn => ?_⟩
  obtain ⟨ad, e, hb, hcell⟩ := hr hn
  exact ⟨ad, e, hb, fun j hj => ⟨(hk _ (by rw [block_of_add]; exact hb)).trans (hcell j hj).1, (hk _ (by rw [block_of_add]; exact hb)).trans (hcell j hj).2⟩⟩
theorem Gaps.more (h : Gaps w B v gs) (hB : B ≤ B') : Gaps w B' v gs := by
  obtain ⟨A, c, rfl, hc, hr⟩ := h
  refine ⟨A, c, rfl, hc, fun hn => ?_⟩
  obtain ⟨ad, e, hb, hcell⟩ := hr hn
  exact ⟨ad, e, by omega, hcell⟩
theorem Gaps.below (h : Gaps w B v gs) (hb : Below B w w') : Gaps w' B v gs := h.keep fun _ hp => hb.cell hp
theorem Gaps.nil (w : World) (B : Nat) : Gaps w B (.slice none 0 0) [] := ⟨none, 0, rfl, Nat.le_refl _, fun h => absurd h (by simp)⟩
theorem Gaps.len (h : Gaps w B v gs) : ∃ A c, v = .slice A gs.length c := by obtain ⟨A, c, h, _⟩ := h; exact ⟨A, c, h⟩
end
theorem add_succ (a : Addr) (n : Nat) : a.add (n + 1) = ⟨(a.add n).block, (a.add n).off + 1, none⟩ := by
  unfold Addr.add
  split
  · omega
  · split
    · next h => subst h; rfl
    · rfl
theorem ret_bool {a b : Bool} (h : a = b) : Ending.returned (.bool a) = .returned (.bool b) := by rw [h]
/-- The cells of gaps. -/
def cellsG (gs : List (Int × Int)) : List Value := gs.flatMap fun g => [.int .i64 g.1, .int .i64 g.2]
theorem cellsG_length (gs : List (Int × Int)) : (cellsG gs).length = gs.length * 2 := by
  induction gs with
  | nil => rfl
  | cons g t ih => show (_ :: _ :: cellsG t).length = _; simp [ih]; omega
theorem cellsG_at : ∀ (gs : List (Int × Int)) (j : Nat) (h : j < gs.length), (cellsG gs)[j * 2]? = some (.int .i64 gs[j].1) ∧ (cellsG gs)[j * 2 + 1]? = some (.int .i64 gs[j].2)
  | [], j, h => by simp at h
  | g :: t, 0, _ => ⟨rfl, rfl⟩
  | g :: t, j + 1, h => by
    have h' := cellsG_at t j (by simpa using h)
    have e : (j + 1) * 2 = j * 2 + 1 + 1 := by omega
    rw [e]
    exact ⟨h'.1, h'.2⟩
theorem cellsG_snoc (gs : List (Int × Int)) (g : Int × Int) : cellsG gs ++ [.int .i64 g.1, .int .i64 g.2] = cellsG (gs ++ [g]) := by
  unfold cellsG; rw [List.flatMap_append]; rfl
/-- A row of gaps that the call itself made: t their type. -/
def OwnG (t : TypeId) (w : World) (B : Nat) (v : Value) (gs : List (Int × Int)) : Prop := w.ownsRow B t 2 v gs.length (cellsG gs)
theorem OwnG.gaps {t : TypeId} {w : World} {B : Nat} {v : Value} {gs : List (Int × Int)} (h : OwnG t w B v gs) : Gaps w w.heap.size v gs := by
  rcases h.2 with ⟨rfl, hn⟩ | ⟨g, cap, cur, rfl, hb, hh, hc, _⟩
  · have e : gs = [] := List.eq_nil_of_length_eq_zero hn
    subst e; exact Gaps.nil _ _
  · refine ⟨_, _, rfl, hc, fun hn => ⟨_, rfl, (h.lt g rfl).2, fun j hj => ?_⟩⟩
    obtain ⟨k1, k2⟩ := cellsG_at gs j hj
    exact ⟨h.cells (g := g) rfl _ _ k1, h.cells (g := g) rfl _ _ k2⟩

theorem OwnG.below {t : TypeId} {w w1 : World} {B : Nat} {v : Value} {gs : List (Int × Int)} (h : OwnG t w B v gs) (hb : Below w.heap.size w w1) : OwnG t w1 B v gs := by
  refine ⟨h.1, ?_⟩
  rcases h.2 with h0 | ⟨g, cap, cur, rfl, hg, hh, h2⟩
  · exact .inl h0
  · exact .inr ⟨g, cap, cur, rfl, hg, (hb.block g (World.ownsRow.lt h g rfl).2).trans hh, h2⟩
theorem OwnG.empty (t : TypeId) (w : World) : OwnG t (w.alloc (.cells #[] t)) w.heap.size (.slice (some ⟨w.heap.size, 0, none⟩) 0 0) [] :=
  World.ownsRow_lit w #[] 0 (Nat.le_refl _) (by simp [maxLen]) rfl
theorem OwnG.grow {t : TypeId} {w wr w1 : World} {B : Nat} {v v' : Value} {gs : List (Int × Int)} {g : Int × Int} {o : Obj} (hown : OwnG t wr B v gs) (hbel : Below B w wr) (hsz : B ≤ wr.heap.size)
    (h' : w1.ownsRow B t 2 v' (gs.length + 1) (cellsG gs ++ [.int .i64 g.1, .int .i64 g.2])) (hg : (wr.alloc o).grownBy w1 v.ownBlock) : OwnG t w1 B v' (gs ++ [g]) ∧ Below B w w1 := by
  constructor
  · rw [cellsG_snoc] at h'; unfold OwnG; simpa using h'
  · exact (hbel.alloc hsz o).grown hg (by simp; omega) (fun k hk => (World.ownsRow.lt hown k hk).1)
theorem pair_cells (wr : World) (x y : Value) (t : TypeId) : ∀ j u, [x, y][j]? = some u → (wr.alloc (.cells #[x, y] t)).cell? ((⟨wr.heap.size, 0, none⟩ : Addr).add j) = some u := by
  intro j u hj
  match j, hj with
  | 0, hj => simp at hj; subst hj; simp [Addr.add]
  | 1, hj => simp at hj; subst hj; simp [Addr.add]
theorem two_ints (x y : Int) : ∀ u ∈ [Value.int .i64 x, Value.int .i64 y], u.oneCell' = true := by
  intro u hu; simp at hu; rcases hu with rfl | rfl <;> rfl
theorem Gaps.new (w : World) (t : TypeId) (cs : Array Value) (gs : List (Int × Int)) (hcs : cs = (cellsG gs).toArray) : Gaps (w.alloc (.cells cs t)) (w.alloc (.cells cs t)).heap.size (.slice (some ⟨w.heap.size, 0, none⟩) gs.length gs.length) gs := by
  subst hcs
  rw [World.size_alloc]
  refine ⟨_, _, rfl, Nat.le_refl _, fun hn => ⟨_, rfl, Nat.lt_succ_self _, fun j hj => ?_⟩⟩
  have e : ∀ j, (Addr.mk w.heap.size 0 none).add j = ⟨w.heap.size, j, none⟩ := fun j => by unfold Addr.add; split <;> simp_all
  obtain ⟨h0, h1⟩ := cellsG_at gs j hj
  rw [e, e, World.cell?_alloc_new, World.cell?_alloc_new]
  exact ⟨by simpa using h0, by simpa using h1⟩
/-- A call over a list of gaps that was just written out. -/
theorem Gaps.fresh (w : World) (t : TypeId) (cs : Array Value) (gs : List (Int × Int)) (hcs : cs = (cellsG gs).toArray) (g : Nat) (hg : Hid (g = w.heap.size)) : Gaps (w.alloc (.cells cs t)) (w.alloc (.cells cs t)).heap.size (.slice (some ⟨g, 0, none⟩) gs.length gs.length) gs := by
  have hg := hg.out; subst hg
  exact Gaps.new w t cs gs hcs
theorem Gaps.src {w w' : World} {B : Nat} {A : Option Addr} {n c : Nat} {gs : List (Int × Int)} (h : Gaps w B (.slice A n c) gs) (hk : ∀ p : Addr, p.block < B → w'.cell? p = w.cell? p) : SrcV w' A gs.length (cellsG gs) := by
  obtain ⟨A', c', e, _, hr⟩ := h
  injection e with e1 e2 e3
  subst e1
  intro hn
  obtain ⟨ad, ea, hb, hc⟩ := hr hn
  refine ⟨ad, ea, fun j u hu => ?_⟩
  have hj := (List.getElem?_eq_some_iff.1 hu).1
  rw [cellsG_length] at hj
  obtain ⟨i, hi, hij⟩ : ∃ i, i < gs.length ∧ (j = i * 2 ∨ j = i * 2 + 1) := ⟨j / 2, by omega, by omega⟩
  obtain ⟨k1, k2⟩ := cellsG_at gs i hi
  rw [hk _ (by rw [block_of_add]; exact hb)]
  rcases hij with rfl | rfl
  · rw [k1] at hu; injection hu with hu; subst hu; exact (hc i hi).1
  · rw [k2] at hu; injection hu with hu; subst hu; exact (hc i hi).2
theorem Gaps.at_ {w : World} {B : Nat} {A : Option Addr} {n c : Nat} {gs : List (Int × Int)} (h : Gaps w B (.slice A n c) gs) (hn : 0 < gs.length) :
    ∃ ad, A = some ad ∧ ad.block < B ∧ ∀ j (h : j < gs.length), w.cell? (ad.add (j * 2)) = some (.int .i64 gs[j].1) ∧ w.cell? (ad.add (j * 2 + 1)) = some (.int .i64 gs[j].2) := by
  obtain ⟨A', c', e, _, hr⟩ := h
  injection e with e1 e2 e3
  subst e1
  exact hr hn
theorem cellsG_one (gs : List (Int × Int)) : ∀ u ∈ cellsG gs, u.oneCell' = true := by
  intro u hu
  unfold cellsG at hu
  obtain ⟨g, _, hg⟩ := List.mem_flatMap.1 hu
  simp at hg
  rcases hg with rfl | rfl <;> rfl
theorem own_made {t : TypeId} {w w1 w2 : World} {v2 : Value} {gs : List (Int × Int)} {n : Nat} (hn : n = gs.length) (hB : Below w.heap.size w w1) (h : w2.ownsRow w1.heap.size t 2 v2 (0 + n) ([] ++ cellsG gs)) (hg : (w1.alloc (.cells #[] t)).grownBy w2 (Value.slice (some ⟨w1.heap.size, 0, none⟩) 0 0).ownBlock) :
    Gaps w2 w2.heap.size v2 gs ∧ Below w.heap.size w w2 := by
  subst hn
  have h' : OwnG t w2 w1.heap.size v2 gs := by unfold OwnG; simpa using h
  exact ⟨h'.gaps, hB.trans (((below_new w1 (.cells #[] t)).grown hg (by simp) (fun j hj => ((OwnG.empty t w1).lt j hj).1)).mono hB.size)⟩
end Go.Proofs.Ytcihojimojipiaa
