/- A variable in memory that holds two words: how it stands when memory grows, or when a word is stored. No condition. -/
import Derived.Test.YtmafkknnekkcdaaCellW
import Derived.Test.YtmafkknnekkcdaaNumAt
namespace Go.Proofs.Ytmafkknnekkcdaa
open Go.RowKit

/-- Block b holds the words h and l, and they may be written. -/
structure AtP (w : World) (b : Nat) (h l : Int) : Prop where
  c0 : w.cell? ⟨b, 0, none⟩ = some (.int .i64 h)
  c1 : w.cell? ⟨b, 1, none⟩ = some (.int .u64 l)
  f0 : w.frozen? ⟨b, 0, none⟩ = false
  f1 : w.frozen? ⟨b, 1, none⟩ = false
section
variable {w w1 : World} {b : Nat} {h l : Int}
theorem AtP.lt (a : AtP w b h l) : b < w.heap.size := World.block_lt_of_cell? _ _ a.c0
theorem AtP.below (a : AtP w b h l) (hb : Below w.heap.size w w1) : AtP w1 b h l := by
  obtain ⟨hc, hf⟩ := bcell hb
  have := a.lt
  exact ⟨(hc _ _ this).trans a.c0, (hc _ _ this).trans a.c1, (hf _ _ this).trans a.f0, (hf _ _ this).trans a.f1⟩
theorem AtP.drew (a : AtP w b h l) : AtP w.drew b h l := ⟨a.c0, a.c1, a.f0, a.f1⟩
theorem AtP.alloc (a : AtP w b h l) (o : Obj) : AtP (w.alloc o) b h l := a.below (up1 w o)
theorem AtP.other (a : AtP w b h l) {b' : Nat} (hb : b ≠ b') (i : Nat) (u : Value) : AtP (w.setCell ⟨b', i, none⟩ u) b h l := by
  have e : ∀ j, (w.setCell ⟨b', i, none⟩ u).cell? ⟨b, j, none⟩ = w.cell? ⟨b, j, none⟩ := fun j => by
    rw [World.cell?_setCell_other _ _ _ _ (fun e => hb (by injection e with e1; exact e1.symm))]
  exact ⟨(e 0).trans a.c0, (e 1).trans a.c1, by simpa using a.f0, by simpa using a.f1⟩
theorem AtP.set0 (a : AtP w b h l) (h' : Int) : AtP (w.setCell ⟨b, 0, none⟩ (.int .i64 h')) b h' l :=
  ⟨World.cell?_setCell_same _ _ _ a.c0, by rw [World.cell?_setCell_other _ _ _ _ (by simp)]; exact a.c1, by simpa using a.f0, by simpa using a.f1⟩
theorem AtP.set1 (a : AtP w b h l) (l' : Int) : AtP (w.setCell ⟨b, 1, none⟩ (.int .u64 l')) b h l' :=
  ⟨by rw [World.cell?_setCell_other _ _ _ _ (by simp)]; exact a.c0, World.cell?_setCell_same _ _ _ a.c1, by simpa using a.f0, by simpa using a.f1⟩
theorem AtP.set_ (a : AtP w b h l) (h' l' : Int) : AtP ((w.setCell ⟨b, 0, none⟩ (.int .i64 h')).setCell ⟨b, 1, none⟩ (.int .u64 l')) b h' l' := (a.set0 h').set1 l'
end
theorem AtP.new (w : World) (h l : Int) (t : TypeId) : AtP (w.alloc (.cells #[.int .i64 h, .int .u64 l] t)) w.heap.size h l := by
  have fz : ∀ i, (w.alloc (.cells #[.int .i64 h, .int .u64 l] t)).frozen? ⟨w.heap.size, i, none⟩ = false := fun i => by
    unfold World.frozen?
    show (match (w.alloc (.cells #[.int .i64 h, .int .u64 l] t)).heap[w.heap.size]? with | some (.cells _ _ (lo, hi)) => decide (lo ≤ i) && decide (i < hi) | _ => false) = false
    rw [heap_alloc_new]; simp
  exact ⟨World.cell?_alloc_new (w := w) _ _ 0, World.cell?_alloc_new (w := w) _ _ 1, fz 0, fz 1⟩
/-- Two variables that were just made, the first one of block w.heap.size. -/
theorem AtP.two (w : World) (h l h' l' : Int) (t : TypeId) : AtP ((w.alloc (.cells #[.int .i64 h, .int .u64 l] t)).alloc (.cells #[.int .i64 h', .int .u64 l'] t)) w.heap.size h l ∧ AtP ((w.alloc (.cells #[.int .i64 h, .int .u64 l] t)).alloc (.cells #[.int .i64 h', .int .u64 l'] t)) (w.heap.size + 1) h' l' := by
  refine ⟨(AtP.new w h l t).alloc _, ?_⟩
  have h := AtP.new (w.alloc (.cells #[.int .i64 h, .int .u64 l] t)) h' l' t
  rw [World.size_alloc] at h
  exact h
end Go.Proofs.Ytmafkknnekkcdaa
