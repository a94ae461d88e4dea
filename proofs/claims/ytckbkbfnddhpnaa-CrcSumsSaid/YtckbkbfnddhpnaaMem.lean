/- Slices that read as lists of numbers, nil among them; how they stand when memory grows. -/
import Derived.Test.YtckbkbfnddhpnaaNum
import Derived.Below
import Derived.Laws.OwnMore
import Derived.Deep.AppendLies
import Derived.Deep.Draws
import Derived.Maps.AppendAt
import Derived.RegionTactic
import Derived.OwnWalk
namespace Go.Proofs.Ytckbkbfnddhpnaa
open Go.RowKit

theorem block_of_add (a : Addr) (n : Nat) : (a.add n).block = a.block := by unfold Addr.add; split <;> rfl

/-- The slice value reads as the list of numbers, below block B. -/
def Lst (w : World) (B : Nat) (k : IntKind) (v : Value) (zs : List Int) : Prop :=
  ∃ (A : Option Addr) (c : Nat), v = .slice A zs.length c ∧ zs.length ≤ c ∧
    (0 < zs.length → ∃ ad, A = some ad ∧ ad.block < B ∧ ∀ j (h : j < zs.length), w.cell? (ad.add j) = some (.int k zs[j]))

section
variable {w w' : World} {B B' : Nat} {k : IntKind} {v : Value} {zs : List Int}
theorem Lst.keep (h : Lst w B k v zs) (hk : ∀ p : Addr, p.block < B → w'.cell? p = w.cell? p) : Lst w' B k v zs := by
  obtain ⟨A, c, rfl, hc, hr⟩ := h
  refine ⟨A, c, rfl, hc, fun hn => ?_⟩
  obtain ⟨ad, e, hb, hcell⟩ := hr hn
  exact ⟨ad, e, hb, fun j hj => (hk _ (by rw [block_of_add]; exact hb)).trans (hcell j hj)⟩
theorem Lst.more (h : Lst w B k v zs) (hB : B ≤ B') : Lst w B' k v zs := by
  obtain ⟨A, c, rfl, hc, hr⟩ := h
  refine ⟨A, c, rfl, hc, fun hn => ?_⟩
  obtain ⟨ad, e, hb, hcell⟩ := hr hn
  exact ⟨ad, e, by omega, hcell⟩
theorem Lst.below (h : Lst w B k v zs) (hb : Below B w w') : Lst w' B k v zs := h.keep fun _ hp => hb.cell hp
theorem Lst.nil (w : World) (B : Nat) (k : IntKind) : Lst w B k (.slice none 0 0) [] := ⟨none, 0, rfl, Nat.le_refl _, fun h => absurd h (by simp)⟩
theorem Lst.of_own {e : TypeId} {base : Nat} {A : Option Addr} {c : Nat} (h : w.ownsRow base e 1 (.slice A zs.length c) zs.length (zs.map (Value.int k))) (hc : zs.length ≤ c) :
    Lst w w.heap.size k (.slice A zs.length c) zs := by
  refine ⟨A, c, rfl, hc, fun hn => ?_⟩
  obtain ⟨g, cap, hv, _, hlt⟩ := h.form hn
  have hA : A = some ⟨g, 0, none⟩ := by injection hv
  subst hA
  exact ⟨_, rfl, hlt, fun j hj => h.cells (g := g) rfl j _ (by simp [hj])⟩
/-- A slice that was just written out. -/
theorem Lst.new (w : World) (t : TypeId) (cs : Array Value) (hcs : cs = (zs.map (Value.int k)).toArray) : Lst (w.alloc (.cells cs t)) (w.heap.size + 1) k (.slice (some ⟨w.heap.size, 0, none⟩) zs.length zs.length) zs := by
  subst hcs
  refine ⟨_, _, rfl, Nat.le_refl _, fun hn => ⟨_, rfl, Nat.lt_succ_self _, fun j hj => ?_⟩⟩
  have e : (Addr.mk w.heap.size 0 none).add j = ⟨w.heap.size, j, none⟩ := by unfold Addr.add; split <;> simp_all
  rw [e, World.cell?_alloc_new]
  simp [hj]
theorem Lst.cut {A : Option Addr} {n c : Nat} (h : Lst w B k (.slice A n c) zs) {m : Nat} (hm : m ≤ zs.length) : Lst w B k (.slice A m c) (zs.take m) := by
  obtain ⟨A', c', e, hc, hr⟩ := h
  injection e with e1 e2 e3
  subst e1; subst e3
  have hl : (zs.take m).length = m := by rw [List.length_take]; omega
  refine ⟨A, c, by rw [hl], by omega, fun hn => ?_⟩
  obtain ⟨ad, e, hb, hcell⟩ := hr (by omega)
  refine ⟨ad, e, hb, fun j hj => ?_⟩
  rw [hcell j (by omega), List.getElem_take]
/-- A store where no number lies leaves a list of numbers as it was. -/
theorem Lst.store {p : Addr} {x : Value} (h : Lst w B k v zs) (hx : w.cell? p = some x) (hk : ∀ n, x ≠ .int k n) (y : Value) : Lst (w.setCell p y) B k v zs := by
  obtain ⟨A, c, e, hc, hr⟩ := h
  refine ⟨A, c, e, hc, fun hn => ?_⟩
  obtain ⟨ad, ea, hb, hcell⟩ := hr hn
  refine ⟨ad, ea, hb, fun j hj => ?_⟩
  rw [World.cell?_setCell_other w p (ad.add j) y (fun e => ?_)]
  · exact hcell j hj
  · have := hcell j hj
    rw [← e, hx] at this
    injection this with this
    exact hk _ this
theorem Lst.len (h : Lst w B k v zs) : ∃ A c, v = .slice A zs.length c := by obtain ⟨A, c, h, _⟩ := h; exact ⟨A, c, h⟩
end
theorem below_drewN {B : Nat} {a w : World} (h : Below B a w) (n : Nat) : Below B a (w.drewN n) := ⟨h.os, h.tape, h.output, h.size, h.block⟩
theorem below_new (w : World) (o : Obj) : Below w.heap.size w (w.alloc o) := (Below.refl _ _).alloc (Nat.le_refl _) o
end Go.Proofs.Ytckbkbfnddhpnaa
