/- A list that is appended to a row of the call's own, with what is said of the row's block: other blocks stand. -/
import Derived.Test.YteiilmnehdbdiaaGreatDoorAppend
import Derived.Test.YteiilmnehdbdiaaGreatDoorLabO
namespace Go.Proofs.YteiilmnehdbdiaaGreatDoor
open Go.RowKit

section
variable {P : Program} (w : World)
theorem run_append_cells2 (base : Nat) (t ty e : TypeId) (i : TypeInfo) (z : Value) (size bytes : Nat) (ht : P.underlying t = some (.slice e)) (hi : P.info? e = some i) (hz : i.zero = some z) (hsize : i.size = size) (hby : i.bytes = bytes) (hzs : z.cells.size = size) (hsz : 0 < size)
    (v : Value) (n : Nat) (xs : List Value) (hown : w.ownsRow base e size v n xs) (A : Option Addr) (m c : Nat) (news : List Value) (hl : news.length = m * size) (hs : SrcV w A m news) (h1 : ∀ u ∈ news, u.oneCell' = true)
    (h63 : n + m ≤ maxLen) (hbytes : (n + m) * bytes ≤ 140737488355328) (hbase : base ≤ w.heap.size) :
    ∃ v' w', (Builtin.append_ #[t, t] ty #[v, .slice A m c]).run P w = .ok v' w' ∧ w'.ownsRow base e size v' (n + m) (xs ++ news) ∧ w.grownBy w' v.ownBlock ∧ (v'.ownBlock = v.ownBlock ∨ v'.ownBlock = some w.heap.size) := by
  rcases A with _ | ad
  · have h0 : m = 0 := by
      rcases Nat.eq_zero_or_pos m with k | k
      · exact k
      · obtain ⟨_, e, _⟩ := hs k; cases e
    subst h0
    have h0 : news = [] := List.eq_nil_of_length_eq_zero (by omega)
    subst h0
    refine ⟨v, w, ?_, by simpa using hown, World.grownBy.refl w _, Or.inl rfl⟩
    rcases hown.2 with ⟨rfl, rfl⟩ | ⟨g, cap, cur, rfl, _, _, hnc, _⟩
    · simp [Builtin.append_, run_underlying ht, sizeOf, typeInfo, hi, Builtin.lenOf, Builtin.firstCells]
    · simp [Builtin.append_, run_underlying ht, sizeOf, typeInfo, hi, Builtin.lenOf, Builtin.firstCells, hnc, storeCells, loadCells]
  · have hcells : ∀ j u, news[j]? = some u → w.cell? (ad.add j) = some u := by
      intro j u hu
      rcases Nat.eq_zero_or_pos m with k | k
      · subst k
        have h0 : news = [] := List.eq_nil_of_length_eq_zero (by omega)
        subst h0; simp at hu
      · obtain ⟨ad', e, hc⟩ := hs k
        injection e with e
        subst e
        exact hc j u hu
    obtain ⟨v', w', hrun, h2, h3, _, h5⟩ := run_append_own_at (P := P) w base t ty e i z size bytes ht hi hz hsize hby hzs hsz v n xs hown ad m c news hl hcells h1 h63 hbytes hbase
    exact ⟨v', w', hrun, h2, h3, h5⟩
theorem step_append_cells2 {ops : Array Oper} {o : Oper} {a : Act} {K : Act → World → Prop} {Q : Exit → Act → World → Prop} {E : Prop} (hgd : o.guard = none) (s x : Operand) (t : TypeId)
    (ho : o.op = .call { callee := .builtin .append, args := #[s, x], argTypes := #[t, t] })
    (base : Nat) (e : TypeId) (i : TypeInfo) (z : Value) (size bytes : Nat) (ht : P.underlying t = some (.slice e)) (hi : P.info? e = some i) (hz : i.zero = some z) (hsize : i.size = size) (hby : i.bytes = bytes) (hzs : z.cells.size = size) (hsz : 0 < size)
    (v : Value) (n : Nat) (xs : List Value) (hv : a.eval s = v) (hown : w.ownsRow base e size v n xs) (A : Option Addr) (m c : Nat) (news : List Value) (hx : a.eval x = .slice A m c) (hl : news.length = m * size) (hs : SrcV w A m news) (h1 : ∀ u ∈ news, u.oneCell' = true)
    (h63 : n + m ≤ maxLen) (hbytes : (n + m) * bytes ≤ 140737488355328) (hbase : base ≤ w.heap.size)
    (h : ∀ v' w', w'.ownsRow base e size v' (n + m) (xs ++ news) → w.grownBy w' v.ownBlock → (v'.ownBlock = v.ownBlock ∨ v'.ownBlock = some w.heap.size) → K (a.put o.dst v') w') :
    if Region.wanted o (yielded ops a.tmps) = true then Oper.wp P o a w K Q else E := by
  rw [if_pos (by simp [Region.wanted, hgd])]
  obtain ⟨v', w', hrun, h2, h3, h5⟩ := run_append_cells2 (P := P) w base t o.type e i z size bytes ht hi hz hsize hby hzs hsz v n xs hown A m c news hl hs h1 h63 hbytes hbase
  unfold Oper.wp execOp
  simp only [ho, resolve, invoke, builtin, Sem.run_bind, Sem.run_pure, Result.andThen_ok, List.map_toArray, List.map_cons, List.map_nil, hv, hx, hrun]
  exact h v' w' h2 h3 h5
end
/-- A row of labels of the call's own, with its block told apart from others. -/
structure OwnP (t : TypeId) (w : World) (B : Nat) (v : Value) (gs : List Lab) (p : Nat → Prop) : Prop where
  own : OwnB t w B v gs
  apart : ∀ g, p g → v.ownBlock ≠ some g
section
variable {t : TypeId} {w w1 : World} {B : Nat} {v v' : Value} {gs hs : List Lab} {p : Nat → Prop}
theorem OwnP.grew (h : OwnP t w B v gs p) (hsz : B ≤ w.heap.size) (hp : ∀ g, p g → g < w.heap.size) (h' : w1.ownsRow B t 2 v' (gs.length + hs.length) (cellsB gs ++ cellsB hs)) (hg : w.grownBy w1 v.ownBlock) (ho : v'.ownBlock = v.ownBlock ∨ v'.ownBlock = some w.heap.size) :
    OwnP t w1 B v' (gs ++ hs) p ∧ Below B w w1 := by
  refine ⟨⟨?_, fun g hpg e => ?_⟩, (Below.refl B w).grown hg hsz fun k hk => (World.ownsRow.lt h.own k hk).1⟩
  · unfold OwnB
    rw [List.length_append]
    have e : cellsB (gs ++ hs) = cellsB gs ++ cellsB hs := by unfold cellsB; rw [List.flatMap_append]
    rw [e]; exact h'
  · rcases ho with ho | ho
    · exact h.apart g hpg (ho.symm.trans e)
    · rw [ho] at e
      injection e with e
      have := hp g hpg
      omega
end
theorem At2.grown {w w' : World} {b : Nat} {x y : Value} {own : Option Nat} (a : At2 w b x y) (hg : w.grownBy w' own) (hb : own ≠ some b) : At2 w' b x y := by
  obtain ⟨_, _, _, _, hblk⟩ := hg
  have hk : w'.heap[b]? = w.heap[b]? := hblk b a.lt (Ne.symm hb)
  exact ⟨(World.cell?_of_block (w := w) (a := ⟨b, 0, none⟩) hk).trans a.c0, (World.cell?_of_block (w := w) (a := ⟨b, 1, none⟩) hk).trans a.c1, (World.frozen?_of_block (w := w) (a := ⟨b, 0, none⟩) hk).trans a.f0, (World.frozen?_of_block (w := w) (a := ⟨b, 1, none⟩) hk).trans a.f1⟩
theorem own_join {t : TypeId} {w w1 : World} {B : Nat} {v v' : Value} {gs hs : List Lab} (h : OwnB t w B v gs) (hsz : B ≤ w.heap.size) (h' : w1.ownsRow B t 2 v' (gs.length + hs.length) (cellsB gs ++ cellsB hs)) (hg : w.grownBy w1 v.ownBlock) : OwnB t w1 B v' (gs ++ hs) ∧ Below B w w1 := by
  refine ⟨?_, (Below.refl B w).grown hg hsz fun k hk => (World.ownsRow.lt h k hk).1⟩
  unfold OwnB
  rw [List.length_append]
  have e : cellsB (gs ++ hs) = cellsB gs ++ cellsB hs := by unfold cellsB; rw [List.flatMap_append]
  rw [e]; exact h'
theorem apart_join {v v' : Value} {g n : Nat} (hb : v.ownBlock ≠ some g) (hg : g < n) (ho : v'.ownBlock = v.ownBlock ∨ v'.ownBlock = some n) : v'.ownBlock ≠ some g := by
  rcases ho with ho | ho
  · rw [ho]; exact hb
  · rw [ho]; intro e; injection e with e; omega
theorem apart_new {t : TypeId} {w : World} {B : Nat} {v : Value} {gs : List Lab} (h : OwnB t w B v gs) : v.ownBlock ≠ some w.heap.size := fun e => by
  have := (World.ownsRow.lt h _ e).2
  omega
theorem src_two {w : World} {g : Nat} {a b : ByteArray} (p : At2 w g (.string a) (.string b)) : SrcV w (some ⟨g, 0, none⟩) 1 (cellsB [(a, b)]) := fun _ => by
  refine ⟨_, rfl, fun j u hu => ?_⟩
  have e : ∀ i, (Addr.mk g 0 none).add i = ⟨g, i, none⟩ := fun i => by unfold Addr.add; split <;> simp_all
  rw [e]
  match j, hu with
  | 0, hu => simp [cellsB] at hu; subst hu; exact p.c0
  | 1, hu => simp [cellsB] at hu; subst hu; exact p.c1
end Go.Proofs.YteiilmnehdbdiaaGreatDoor
