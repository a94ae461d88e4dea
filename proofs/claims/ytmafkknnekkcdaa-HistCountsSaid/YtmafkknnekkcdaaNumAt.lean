/- A variable that holds a whole number: its block, and how it stands when memory grows or another one is stored. -/
import Derived.Test.YtmafkknnekkcdaaRefD
namespace Go.Proofs.Ytmafkknnekkcdaa
open Go.RowKit

/-- Block b holds the number x, as a sign and a slice. -/
structure NumAt (w : World) (b : Nat) (s : Bool) (A : Option Addr) (n c : Nat) (x : Int) : Prop where
  c0 : w.cell? ⟨b, 0, none⟩ = some (.bool s)
  c1 : w.cell? ⟨b, 1, none⟩ = some (.slice A n c)
  f0 : w.frozen? ⟨b, 0, none⟩ = false
  f1 : w.frozen? ⟨b, 1, none⟩ = false
  num : NumV w (.agg #[.bool s, .slice A n c]) x
theorem NumAt.lt {w : World} {b : Nat} {s : Bool} {A : Option Addr} {n c : Nat} {x : Int} (h : NumAt w b s A n c x) : b < w.heap.size := World.block_lt_of_cell? _ _ h.c0
theorem NumAt.below {w w1 : World} {b : Nat} {s : Bool} {A : Option Addr} {n c : Nat} {x : Int} (h : NumAt w b s A n c x) (hb : Below w.heap.size w w1) : NumAt w1 b s A n c x := by
  obtain ⟨hc, hf⟩ := bcell hb
  have := h.lt
  exact ⟨(hc _ _ this).trans h.c0, (hc _ _ this).trans h.c1, (hf _ _ this).trans h.f0, (hf _ _ this).trans h.f1, h.num.below hb⟩
theorem NumAt.drew {w : World} {b : Nat} {s : Bool} {A : Option Addr} {n c : Nat} {x : Int} (h : NumAt w b s A n c x) : NumAt w.drew b s A n c x := ⟨h.c0, h.c1, h.f0, h.f1, h.num⟩
theorem NumAt.alloc {w : World} {b : Nat} {s : Bool} {A : Option Addr} {n c : Nat} {x : Int} (h : NumAt w b s A n c x) (o : Obj) : NumAt (w.alloc o) b s A n c x := h.below (below_new w o)
/-- A number's memory under a store of a number into a variable. -/
theorem NumV.put {w : World} {r : Value} {y : Int} (h : NumV w r y) {b : Nat} {s : Bool} {A : Option Addr} {n c : Nat} {x : Int} (hv : NumAt w b s A n c x) (s' : Bool) (A' : Option Addr) (n' c' : Nat) :
    NumV ((w.setCell ⟨b, 0, none⟩ (.bool s')).setCell ⟨b, 1, none⟩ (.slice A' n' c')) r y := by
  obtain ⟨v, e, hn⟩ := h
  have e1 : (w.setCell ⟨b, 0, none⟩ (.bool s')).cell? ⟨b, 1, none⟩ = some (.slice A n c) := by
    rw [World.cell?_setCell_other _ _ _ _ (by simp)]; exact hv.c1
  refine ⟨v, e, ?_⟩
  show NatB _ _ _ _
  rw [World.size_setCell, World.size_setCell]
  exact (hn.store hv.c0 (by simp) (.bool s')).store e1 (by simp) (.slice A' n' c')
theorem put_other {w : World} {b b' : Nat} (hb : b' ≠ b) (u v : Value) (i : Nat) : ((w.setCell ⟨b, 0, none⟩ u).setCell ⟨b, 1, none⟩ v).cell? ⟨b', i, none⟩ = w.cell? ⟨b', i, none⟩ := by
  rw [World.cell?_setCell_other _ _ _ _ (fun e => hb (by injection e with e1; exact e1.symm)), World.cell?_setCell_other _ _ _ _ (fun e => hb (by injection e with e1; exact e1.symm))]
theorem NumAt.put {w : World} {b b' : Nat} {s t : Bool} {A A2 : Option Addr} {n c n2 c2 : Nat} {x y : Int} (h : NumAt w b' t A2 n2 c2 y) (hv : NumAt w b s A n c x) (hb : b' ≠ b) (s' : Bool) (A' : Option Addr) (n' c' : Nat) :
    NumAt ((w.setCell ⟨b, 0, none⟩ (.bool s')).setCell ⟨b, 1, none⟩ (.slice A' n' c')) b' t A2 n2 c2 y :=
  ⟨(put_other hb _ _ 0).trans h.c0, (put_other hb _ _ 1).trans h.c1, by simpa using h.f0, by simpa using h.f1, h.num.put hv s' A' n' c'⟩
theorem NumAt.set_ {w : World} {b : Nat} {s s' : Bool} {A A' : Option Addr} {n c n' c' : Nat} {x y : Int} (hv : NumAt w b s A n c x) (hn : NumV w (.agg #[.bool s', .slice A' n' c']) y) :
    NumAt ((w.setCell ⟨b, 0, none⟩ (.bool s')).setCell ⟨b, 1, none⟩ (.slice A' n' c')) b s' A' n' c' y := by
  have e1 : (w.setCell ⟨b, 0, none⟩ (.bool s')).cell? ⟨b, 1, none⟩ = some (.slice A n c) := by
    rw [World.cell?_setCell_other _ _ _ _ (by simp)]; exact hv.c1
  refine ⟨?_, World.cell?_setCell_same _ _ _ e1, by simpa using hv.f0, by simpa using hv.f1, hn.put hv s' A' n' c'⟩
  rw [World.cell?_setCell_other _ _ _ _ (by simp)]
  exact World.cell?_setCell_same _ _ _ hv.c0
/-- A variable that was just made and filled. -/
theorem NumAt.new {w : World} {s : Bool} {A : Option Addr} {n c : Nat} {x : Int} (h : NumV w (.agg #[.bool s, .slice A n c]) x) (t : TypeId) : NumAt (w.alloc (.cells #[.bool s, .slice A n c] t)) w.heap.size s A n c x := by
  have fz : ∀ i, (w.alloc (.cells #[.bool s, .slice A n c] t)).frozen? ⟨w.heap.size, i, none⟩ = false := fun i => by
    unfold World.frozen?
    show (match (w.alloc (.cells #[.bool s, .slice A n c] t)).heap[w.heap.size]? with | some (.cells _ _ (lo, hi)) => decide (lo ≤ i) && decide (i < hi) | _ => false) = false
    rw [heap_alloc_new]; simp
  exact ⟨World.cell?_alloc_new (w := w) _ _ 0, World.cell?_alloc_new (w := w) _ _ 1, fz 0, fz 1, h.below (below_new _ _)⟩
theorem zero_num (w : World) : NumV w (.agg #[.bool false, .slice none 0 0]) 0 := ⟨_, rfl, [], ⟨Lst.nil _ _ _, Digs.nil⟩, fun h => absurd h (by simp), rfl⟩
theorem NumV.drew {w : World} {r : Value} {x : Int} (h : NumV w r x) : NumV w.drew r x := h
theorem NumV.undrew {w : World} {r : Value} {x : Int} (h : NumV w.drew r x) : NumV w r x := h
theorem below_undrew {B : Nat} {W w1 : World} (h : Below B W.drew w1) : Below B W w1 := ⟨h.os, h.tape, h.output, h.size, h.block⟩
theorem NumV.sign {w : World} {s : Bool} {A : Option Addr} {n c : Nat} {x : Int} (h : NumV w (.agg #[.bool s, .slice A n c]) x) : s = decide (x < 0) ∧ (n = 0 ↔ x = 0) := by
  obtain ⟨v, e, xs, hr, hn, hv⟩ := h
  injection e with e
  have e1 := congrArg (fun a : Array Value => a[0]?) e
  have e2 := congrArg (fun a : Array Value => a[1]?) e
  simp at e1 e2
  subst e2
  obtain ⟨A', c', e3⟩ := hr.1.len
  injection e3 with _ e4 _
  refine ⟨e1, ?_⟩
  have hz := hn.zero hr.2
  rw [hv] at hz
  have hm : mag x = 0 ↔ x = 0 := by unfold mag; split <;> omega
  rw [e4, ← hm, hz]
  exact ⟨fun k => List.eq_nil_of_length_eq_zero k, fun k => by rw [k]; rfl⟩

/-! a world that has grown out of another one, step by step -/
theorem ext_step {w X Y : World} (h : Below w.heap.size w X) (hb : Below X.heap.size X Y) : Below w.heap.size w Y := h.trans (hb.mono h.size)
theorem ext_alloc {w X : World} (h : Below w.heap.size w X) (o : Obj) : Below w.heap.size w (X.alloc o) := h.alloc h.size o
theorem ext_drew {w X : World} (h : Below w.heap.size w X) : Below w.heap.size w X.drew := h.drew
theorem ext_drewN {w X : World} (h : Below w.heap.size w X) (n : Nat) : Below w.heap.size w (X.drewN n) := below_drewN h n
theorem ext_put {w X : World} (h : Below w.heap.size w X) {p : Addr} (hp : w.heap.size ≤ p.block) (u : Value) : Below w.heap.size w (X.setCell p u) := h.setCell hp u
end Go.Proofs.Ytmafkknnekkcdaa
