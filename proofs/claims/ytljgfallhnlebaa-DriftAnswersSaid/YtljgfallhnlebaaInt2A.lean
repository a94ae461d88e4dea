/- What wide.Times answers, which only computes; variables that hold a number; equality. -/
import Derived.Test.YtljgfallhnlebaaIntB
import Derived.Test.YtljgfallhnlebaaBits
import Derived.Test.YtljgfallhnlebaaMem
import Derived.Deep.RegionHeld3
import Derived.Laws.StructEq
import Derived.Deep.CutBlock
import Derived.Deep.DeepCutAuto
namespace Go.Proofs.Ytljgfallhnlebaa
open Go.RowKit

/-- A variable in memory that holds a number of two words. -/
def CellW (w : World) (b : Nat) (x : Int) : Prop := w.cell? ⟨b, 0, none⟩ = some (.int .i64 (x / 18446744073709551616)) ∧ w.cell? ⟨b, 1, none⟩ = some (.int .u64 (x % 18446744073709551616))
theorem CellW.lt {w : World} {b : Nat} {x : Int} (h : CellW w b x) : b < w.heap.size := World.block_lt_of_cell? _ _ h.1
theorem CellW.below {w w1 : World} {b : Nat} {x : Int} (h : CellW w b x) (hb : Below w.heap.size w w1) : CellW w1 b x := ⟨(hb.cell h.lt).trans h.1, (hb.cell h.lt).trans h.2⟩
theorem CellW.new (w : World) (x : Int) (t : TypeId) : CellW (w.alloc (.cells #[.int .i64 (x / 18446744073709551616), .int .u64 (x % 18446744073709551616)] t)) w.heap.size x := ⟨by simp [World.cell?_alloc_new], by simp [World.cell?_alloc_new]⟩
theorem CellW.alloc {w : World} {b : Nat} {x : Int} (h : CellW w b x) (o : Obj) : CellW (w.alloc o) b x := h.below (up1 w o)
theorem undrewB {B : Nat} {W w1 : World} (h : Below B W.drew w1) : Below B W w1 := ⟨h.os, h.tape, h.output, h.size, h.block⟩

theorem eqW (h l h' l' : Int) (W : World) : (binOp .eql 68 (.agg #[.int .i64 h, .int .u64 l]) (.agg #[.int .i64 h', .int .u64 l'])).run Try.prog W = .ok (.bool (h == h' && l == l')) W := by
  rw [run_eql_struct, run_equalIn_agg _ _ _ _ _ (by kernel_rfl) (by kernel_rfl)]
  simp only [go_sem, Try.underlying68]
  cases e1 : (h == h') <;> cases e2 : (l == l') <;> simp [e1, e2, go_sem]

theorem neqW (h l h' l' : Int) (W : World) : (binOp .neq 68 (.agg #[.int .i64 h, .int .u64 l]) (.agg #[.int .i64 h', .int .u64 l'])).run Try.prog W = .ok (.bool (!(h == h' && l == l'))) W := by
  rw [run_neq_struct, run_equalIn_agg _ _ _ _ _ (by kernel_rfl) (by kernel_rfl)]
  simp only [go_sem, Try.underlying68]
  cases e1 : (h == h') <;> cases e2 : (l == l') <;> simp [e1, e2, go_sem]
set_option maxRecDepth 100000 in
set_option maxHeartbeats 400000 in
theorem timesW_any (a b : Int) (ha : Fits a) (hb : Fits b) (w : World) :
    Calls Try.prog 61 #[.int .i64 a, .int .i64 b] w fun e w' => e = .returned (.agg #[.int .i64 ((a * b) / 18446744073709551616), .int .u64 ((a * b) % 18446744073709551616)]) ∧ Below w.heap.size w w' := by
  have ea := IntKind.wrap_u64 a
  have eb := IntKind.wrap_u64 b
  have CM := Lib.hid (mul64_any (IntKind.u64.wrap a) (IntKind.u64.wrap b) (by omega) (by omega))
  have HL := (prod_words ha hb).1
  have HP := prod_hi ha hb
  rw [← ea, ← eb] at HL HP
  replace HL := Lib.hid HL
  clear ea eb ha hb
  by_cases h1 : a < 0 <;> by_cases h2 : b < 0
  all_goals
    simp only [h1, h2, if_true, if_false, Int.sub_zero] at HP
    replace HP := Lib.hid HP
    go_enter Try.func61, Try.ntmps61
    go_wp2_with fail
    refine (CM.out _).mono ?_; rintro e w' ⟨rfl, rfl⟩
    go_wp2_with fail
  · exact bodyPost_ret (v := .agg #[.int .i64 (wrap64 (IntKind.u64.wrap (IntKind.u64.wrap (IntKind.u64.wrap a * IntKind.u64.wrap b / 18446744073709551616 - IntKind.u64.wrap b) - IntKind.u64.wrap a))), .int .u64 (IntKind.u64.wrap a * IntKind.u64.wrap b % 18446744073709551616)]) (by simp [results, Try.results61, go_sem]) rfl ⟨ret_w ((wrap_wrap_uu _ _ _).trans HP.out) HL.out, up1 _ _⟩
  · exact bodyPost_ret (v := .agg #[.int .i64 (wrap64 (IntKind.u64.wrap (IntKind.u64.wrap a * IntKind.u64.wrap b / 18446744073709551616 - IntKind.u64.wrap b))), .int .u64 (IntKind.u64.wrap a * IntKind.u64.wrap b % 18446744073709551616)]) (by simp [results, Try.results61, go_sem]) rfl ⟨ret_w ((wrap_wrap_u _ _).trans HP.out) HL.out, up1 _ _⟩
  · exact bodyPost_ret (v := .agg #[.int .i64 (wrap64 (IntKind.u64.wrap (IntKind.u64.wrap a * IntKind.u64.wrap b / 18446744073709551616 - IntKind.u64.wrap a))), .int .u64 (IntKind.u64.wrap a * IntKind.u64.wrap b % 18446744073709551616)]) (by simp [results, Try.results61, go_sem]) rfl ⟨ret_w ((wrap_wrap_u _ _).trans HP.out) HL.out, up1 _ _⟩
  · exact bodyPost_ret (v := .agg #[.int .i64 (wrap64 (IntKind.u64.wrap a * IntKind.u64.wrap b / 18446744073709551616)), .int .u64 (IntKind.u64.wrap a * IntKind.u64.wrap b % 18446744073709551616)]) (by simp [results, Try.results61, go_sem]) rfl ⟨ret_w (HP.out) HL.out, up1 _ _⟩
end Go.Proofs.Ytljgfallhnlebaa
