/- A row of limbs of the call's own, at its block. No condition. -/
import Derived.Test.YtmafkknnekkcdaaRefB
namespace Go.Proofs.Ytmafkknnekkcdaa
open Go.RowKit

theorem quiet_left {P : Program} {f : FuncId} {args : Array Value} {w : World} {n : Nat} {v : Value}
    (h : Calls P f args (w.drewN n) fun e w' => e = .returned v ∧ w.drewN n = w') : Calls P f args (w.drewN n) fun e w'' => e = .returned v ∧ ∃ m, w'' = w.drewN m :=
  h.mono fun _ _ ⟨he, hm⟩ => ⟨he, n, hm.symm⟩
/-- The call's own row of limbs, at its block. -/
def OwnAt (w : World) (g : Nat) (zs : List Int) : Prop := OwnL w g (.slice (some ⟨g, 0, none⟩) zs.length zs.length) zs
theorem OwnAt.cell {w : World} {g : Nat} {zs : List Int} (h : OwnAt w g zs) {j : Nat} (hj : j < zs.length) : w.cell? ⟨g, j, none⟩ = some (.int .i64 (dig zs j)) := by
  rw [World.ownsRow.cellAt h j (by omega), dig_at hj]; simp [hj]
theorem OwnAt.free {w : World} {g : Nat} {zs : List Int} (h : OwnAt w g zs) (j : Nat) : w.frozen? ⟨g, j, none⟩ = false := World.ownsRow.frozenAt h j
theorem OwnAt.set_ {w : World} {g : Nat} {zs : List Int} (h : OwnAt w g zs) (j : Nat) (d : Int) : OwnAt (w.setCell ⟨g, j, none⟩ (.int .i64 d)) g (zs.set j d) := by
  have := (World.ownsRow.stored h j (.int .i64 d)).1
  unfold OwnAt OwnL
  rw [List.length_set, List.map_set]; exact this
theorem OwnAt.drewN {w : World} {g : Nat} {zs : List Int} (h : OwnAt w g zs) (n : Nat) : OwnAt (w.drewN n) g zs := h
theorem OwnAt.made {w : World} {g n : Nat} (h : w.ownsRow g 3 1 (.slice (some ⟨g, 0, none⟩) n n) n (madeCells (Value.int .i64 0).cells (n * 1)).toList) : OwnAt w g (List.replicate n 0) := by
  have e : (madeCells (Value.int .i64 0).cells (n * 1)).toList = (List.replicate n (0 : Int)).map (Value.int .i64) := by
    rw [Nat.mul_one, List.map_replicate]; exact toList_madeCells_one _ _
  rw [e] at h
  unfold OwnAt OwnL
  rw [List.length_replicate]; exact h

end Go.Proofs.Ytmafkknnekkcdaa
