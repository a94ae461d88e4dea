/- What a call leaves as it was that writes to blocks of its own alone, those from L to U. -/
import Derived.Test.YtckbkbfnddhpnaaAt2
namespace Go.Proofs.Ytckbkbfnddhpnaa
open Go.RowKit

structure Aside (L U : Nat) (w w' : World) : Prop where
  os : w'.os = w.os
  tape : w'.tape = w.tape
  output : w'.output = w.output
  size : w.heap.size ≤ w'.heap.size
  block : ∀ k, k < w.heap.size → (k < L ∨ U ≤ k) → w'.heap[k]? = w.heap[k]?
section
variable {L U B : Nat} {a b c w w' : World}
theorem Aside.below (h : Aside L U w w') (hB : B ≤ L) (hw : B ≤ w.heap.size) : Below B w w' := ⟨h.os, h.tape, h.output, h.size, fun k hk => h.block k (Nat.lt_of_lt_of_le hk hw) (Or.inl (Nat.lt_of_lt_of_le hk hB))⟩
theorem Aside.refl (L U : Nat) (w : World) : Aside L U w w := ⟨rfl, rfl, rfl, Nat.le_refl _, fun _ _ _ => rfl⟩
theorem Aside.trans (h : Aside L U a b) (k : Aside L U b c) : Aside L U a c :=
  ⟨k.os.trans h.os, k.tape.trans h.tape, k.output.trans h.output, Nat.le_trans h.size k.size, fun i hi ho => (k.block i (Nat.lt_of_lt_of_le hi h.size) ho).trans (h.block i hi ho)⟩
theorem Aside.step (h : Aside L U a w) (k : Below w.heap.size w w') : Aside L U a w' :=
  ⟨k.os.trans h.os, k.tape.trans h.tape, k.output.trans h.output, Nat.le_trans h.size k.size, fun i hi ho => (k.block i (Nat.lt_of_lt_of_le hi h.size)).trans (h.block i hi ho)⟩
theorem Aside.alloc (h : Aside L U a w) (o : Obj) : Aside L U a (w.alloc o) := h.step (below_new w o)
theorem Aside.drew (h : Aside L U a w) : Aside L U a w.drew := ⟨h.os, h.tape, h.output, h.size, h.block⟩
theorem Aside.put (h : Aside L U a w) {p : Addr} (h1 : L ≤ p.block) (h2 : p.block < U) (u : Value) : Aside L U a (w.setCell p u) :=
  ⟨h.os, h.tape, h.output, by rw [World.size_setCell]; exact h.size, fun i hi ho => (Below.heap_setCell w p u i (by omega)).trans (h.block i hi ho)⟩
theorem Aside.cell (h : Aside L U w w') {p : Addr} (hp : p.block < w.heap.size) (ho : p.block < L ∨ U ≤ p.block) : w'.cell? p = w.cell? p := World.cell?_of_block (w := w) (h.block p.block hp ho)
theorem Aside.frozen (h : Aside L U w w') {p : Addr} (hp : p.block < w.heap.size) (ho : p.block < L ∨ U ≤ p.block) : w'.frozen? p = w.frozen? p := World.frozen?_of_block (w := w) (h.block p.block hp ho)
theorem Aside.at2 {x y : Value} {g : Nat} (h : Aside L U w w') (k : At2 w g x y) (ho : g < L ∨ U ≤ g) : At2 w' g x y :=
  ⟨(h.cell (p := ⟨g, 0, none⟩) k.lt ho).trans k.c0, (h.cell (p := ⟨g, 1, none⟩) k.lt ho).trans k.c1, (h.frozen (p := ⟨g, 0, none⟩) k.lt ho).trans k.f0, (h.frozen (p := ⟨g, 1, none⟩) k.lt ho).trans k.f1⟩
theorem Aside.lst {k : IntKind} {v : Value} {zs : List Int} (h : Aside L U w w') (q : Lst w B k v zs) (hB : B ≤ L) (hw : B ≤ w.heap.size) : Lst w' B k v zs := q.below (h.below hB hw)
end
/-- A world that has grown out of w0 where a call writes aside, to blocks that w0 hadn't. -/
theorem ext_aside {w0 w w' : World} {L U : Nat} (h : Below w0.heap.size w0 w) (k : Aside L U w w') (hL : w0.heap.size ≤ L) : Below w0.heap.size w0 w' := h.trans (k.below hL h.size)
end Go.Proofs.Ytckbkbfnddhpnaa
