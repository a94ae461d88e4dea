/- Variables that hold a number of two words; equality. -/
import Derived.Test.YtmafkknnekkcdaaIntO
import Derived.Test.YtmafkknnekkcdaaMem
import Derived.Deep.RegionHeld3
import Derived.Laws.StructEq
import Derived.Deep.CutBlock
import Derived.Deep.DeepCutAuto
namespace Go.Proofs.Ytmafkknnekkcdaa
open Go.RowKit

/-- A variable in memory that holds a number of two words. -/
def CellW (w : World) (b : Nat) (x : Int) : Prop := w.cell? ⟨b, 0, none⟩ = some (.int .i64 (x / 18446744073709551616)) ∧ w.cell? ⟨b, 1, none⟩ = some (.int .u64 (x % 18446744073709551616))
theorem CellW.lt {w : World} {b : Nat} {x : Int} (h : CellW w b x) : b < w.heap.size := World.block_lt_of_cell? _ _ h.1
theorem CellW.below {w w1 : World} {b : Nat} {x : Int} (h : CellW w b x) (hb : Below w.heap.size w w1) : CellW w1 b x := ⟨(hb.cell h.lt).trans h.1, (hb.cell h.lt).trans h.2⟩
theorem CellW.new (w : World) (x : Int) (t : TypeId) : CellW (w.alloc (.cells #[.int .i64 (x / 18446744073709551616), .int .u64 (x % 18446744073709551616)] t)) w.heap.size x := ⟨by simp [World.cell?_alloc_new], by simp [World.cell?_alloc_new]⟩
theorem CellW.alloc {w : World} {b : Nat} {x : Int} (h : CellW w b x) (o : Obj) : CellW (w.alloc o) b x := h.below (up1 w o)
theorem undrewB {B : Nat} {W w1 : World} (h : Below B W.drew w1) : Below B W w1 := ⟨h.os, h.tape, h.output, h.size, h.block⟩

theorem eqW (h l h' l' : Int) (W : World) : (binOp .eql 47 (.agg #[.int .i64 h, .int .u64 l]) (.agg #[.int .i64 h', .int .u64 l'])).run Try.prog W = .ok (.bool (h == h' && l == l')) W := by
  rw [run_eql_struct, run_equalIn_agg _ _ _ _ _ (by kernel_rfl) (by kernel_rfl)]
  simp only [go_sem, Try.underlying47]
  cases e1 : (h == h') <;> cases e2 : (l == l') <;> simp [e1, e2, go_sem]

theorem neqW (h l h' l' : Int) (W : World) : (binOp .neq 47 (.agg #[.int .i64 h, .int .u64 l]) (.agg #[.int .i64 h', .int .u64 l'])).run Try.prog W = .ok (.bool (!(h == h' && l == l'))) W := by
  rw [run_neq_struct, run_equalIn_agg _ _ _ _ _ (by kernel_rfl) (by kernel_rfl)]
  simp only [go_sem, Try.underlying47]
  cases e1 : (h == h') <;> cases e2 : (l == l') <;> simp [e1, e2, go_sem]
end Go.Proofs.Ytmafkknnekkcdaa
