/- What the functions of package wide answer that only compute: Long, Times, negated, appended. -/
import Derived.Test.YtedojpblfmkjeaaDoorInt
import Derived.Test.YtedojpblfmkjeaaDoorBits
import Derived.Test.YtedojpblfmkjeaaDoorMem
import Derived.Deep.RegionHeld3
import Derived.Laws.StructEq
import Derived.Deep.CutBlock
import Derived.Deep.DeepCutAuto
namespace Go.Proofs.YtedojpblfmkjeaaDoor
open Go.RowKit

/-- A variable in memory that holds a number of two words. -/
def CellW (w : World) (b : Nat) (x : Int) : Prop := w.cell? ⟨b, 0, none⟩ = some (.int .i64 (x / 18446744073709551616)) ∧ w.cell? ⟨b, 1, none⟩ = some (.int .u64 (x % 18446744073709551616))
theorem CellW.lt {w : World} {b : Nat} {x : Int} (h : CellW w b x) : b < w.heap.size := World.block_lt_of_cell? _ _ h.1
theorem CellW.below {w w1 : World} {b : Nat} {x : Int} (h : CellW w b x) (hb : Below w.heap.size w w1) : CellW w1 b x := ⟨(hb.cell h.lt).trans h.1, (hb.cell h.lt).trans h.2⟩
theorem CellW.new (w : World) (x : Int) (t : TypeId) : CellW (w.alloc (.cells #[.int .i64 (x / 18446744073709551616), .int .u64 (x % 18446744073709551616)] t)) w.heap.size x := ⟨by simp [World.cell?_alloc_new], by simp [World.cell?_alloc_new]⟩
theorem CellW.alloc {w : World} {b : Nat} {x : Int} (h : CellW w b x) (o : Obj) : CellW (w.alloc o) b x := h.below (up1 w o)
theorem undrewB {B : Nat} {W w1 : World} (h : Below B W.drew w1) : Below B W w1 := ⟨h.os, h.tape, h.output, h.size, h.block⟩

theorem eqW (h l h' l' : Int) (W : World) : (binOp .eql 24 (.agg #[.int .i64 h, .int .u64 l]) (.agg #[.int .i64 h', .int .u64 l'])).run Tryd.prog W = .ok (.bool (h == h' && l == l')) W := by
  rw [run_eql_struct, run_equalIn_agg _ _ _ _ _ (by kernel_rfl) (by kernel_rfl)]
  simp only [go_sem, Tryd.underlying24]
  cases e1 : (h == h') <;> cases e2 : (l == l') <;> simp [e1, e2, go_sem]

theorem neqW (h l h' l' : Int) (W : World) : (binOp .neq 24 (.agg #[.int .i64 h, .int .u64 l]) (.agg #[.int .i64 h', .int .u64 l'])).run Tryd.prog W = .ok (.bool (!(h == h' && l == l'))) W := by
  rw [run_neq_struct, run_equalIn_agg _ _ _ _ _ (by kernel_rfl) (by kernel_rfl)]
  simp only [go_sem, Tryd.underlying24]
  cases e1 : (h == h') <;> cases e2 : (l == l') <;> simp [e1, e2, go_sem]
theorem ret_lb {a c : Int} {e f : Bool} (h : a = c) (j : e = f) : Ending.returned (.tuple #[.int .i64 a, .bool e]) = .returned (.tuple #[.int .i64 c, .bool f]) := by rw [h, j]
theorem long_same {a : Int} (h : Fits a) : wrap64 (a % 18446744073709551616) = a := by unfold wrap64; unfold Fits at h; omega
theorem long_other {a : Int} (h : ¬ Fits a) : wrap64 (a % 18446744073709551616) / 18446744073709551616 ≠ a / 18446744073709551616 := by
  unfold wrap64; unfold Fits at h; omega

theorem long_low (a : Int) : (wrap64 (a % 18446744073709551616) % 18446744073709551616 == a % 18446744073709551616) = true := by rw [beq_iff_eq]; unfold wrap64; omega
theorem long_high (a : Int) : (wrap64 (a % 18446744073709551616) / 18446744073709551616 == a / 18446744073709551616) = decide (Fits a) := by
  by_cases h : Fits a
  · rw [long_same h]; simp [h]
  · simpa [h] using long_other h

set_option maxRecDepth 100000 in
set_option maxHeartbeats 400000 in
theorem longW_any (a : Int) (w : World) :
    Calls Tryd.prog 11 #[.agg #[.int .i64 ((a) / 18446744073709551616), .int .u64 ((a) % 18446744073709551616)]] w fun e w' => e = .returned (.tuple #[.int .i64 (toldV a), .bool (decide (Fits a))]) ∧ Below w.heap.size w w' := by
  have CO := Lib.hid (ofW_any (wrap64 (a % 18446744073709551616)) (wrap_fits _))
  have C0 := CellW.new w a 24
  have e1 := long_high a
  have e2 := long_low a
  by_cases hF : Fits a
  all_goals
    simp only [hF, decide_true, decide_false] at e1
    go_enter Tryd.func11, Tryd.ntmps11
    go_upto_region 2 with fail
    have HW := Lib.hid (up1 w (.cells #[.int .i64 (a / 18446744073709551616), .int .u64 (a % 18446744073709551616)] 24))
    change Code.wp _ _ _ _ (w.alloc (.cells #[.int .i64 (a / 18446744073709551616), .int .u64 (a % 18446744073709551616)] 24))
    generalize w.alloc (.cells #[.int .i64 (a / 18446744073709551616), .int .u64 (a % 18446744073709551616)] 24) = W at *
    go_region_held3 (fun w' => w'.cell? ⟨w.heap.size, 0, none⟩ = some (.int .i64 (a / 18446744073709551616)) ∧ w'.cell? ⟨w.heap.size, 1, none⟩ = some (.int .u64 (a % 18446744073709551616)))
      ((first | exact C0 | exact C1))
      (first
        | (go_at_call 21; refine (CO.out _).mono ?_; rintro e w1 ⟨rfl, hb1⟩; have C1 := C0.below ⟨hb1.os, hb1.tape, hb1.output, hb1.size, hb1.block⟩; have HB := Lib.hid (HW.out.trans ((⟨hb1.os, hb1.tape, hb1.output, hb1.size, hb1.block⟩ : Below W.heap.size W w1).mono HW.out.size))))
    all_goals
      go_wp2_with fail
      go_ret2
      first
        | exact ⟨ret_lb ((long_same hF).trans (toldV_fit hF).symm) (decide_eq_true hF).symm, HB.out⟩
        | exact ⟨ret_lb (toldV_over hF).symm (decide_eq_false hF).symm, HB.out⟩

set_option maxRecDepth 100000 in
set_option maxHeartbeats 400000 in
theorem timesW_any (a b : Int) (ha : Fits a) (hb : Fits b) (w : World) :
    Calls Tryd.prog 22 #[.int .i64 a, .int .i64 b] w fun e w' => e = .returned (.agg #[.int .i64 ((a * b) / 18446744073709551616), .int .u64 ((a * b) % 18446744073709551616)]) ∧ Below w.heap.size w w' := by
  have ea := IntKind.wrap_u64 a
  have eb := IntKind.wrap_u64 b
  have CM := Lib.hid (mul64_any (IntKind.u64.wrap a) (IntKind.u64.wrap b) (by omega) (by omega))
  have HL := (prod_words ha hb).1
  have HP := prod_hi ha hb
  rw [← ea, ← eb] at HL HP
  replace HL := Lib.hid HL
  clear ea eb ha hb
  by_cases h1 : a < 0 <;> by_cases h2 : b < 0
  all_goals
    simp only [h1, h2, if_true, if_false, Int.sub_zero] at HP
    replace HP := Lib.hid HP
    go_enter Tryd.func22, Tryd.ntmps22
    go_wp2_with fail
    refine (CM.out _).mono ?_; rintro e w' ⟨rfl, rfl⟩
    go_wp2_with fail
  · exact bodyPost_ret (v := .agg #[.int .i64 (wrap64 (IntKind.u64.wrap (IntKind.u64.wrap (IntKind.u64.wrap a * IntKind.u64.wrap b / 18446744073709551616 - IntKind.u64.wrap b) - IntKind.u64.wrap a))), .int .u64 (IntKind.u64.wrap a * IntKind.u64.wrap b % 18446744073709551616)]) (by simp [results, Tryd.results22, go_sem]) rfl ⟨ret_w ((wrap_wrap_uu _ _ _).trans HP.out) HL.out, up1 _ _⟩
  · exact bodyPost_ret (v := .agg #[.int .i64 (wrap64 (IntKind.u64.wrap (IntKind.u64.wrap a * IntKind.u64.wrap b / 18446744073709551616 - IntKind.u64.wrap b))), .int .u64 (IntKind.u64.wrap a * IntKind.u64.wrap b % 18446744073709551616)]) (by simp [results, Tryd.results22, go_sem]) rfl ⟨ret_w ((wrap_wrap_u _ _).trans HP.out) HL.out, up1 _ _⟩
  · exact bodyPost_ret (v := .agg #[.int .i64 (wrap64 (IntKind.u64.wrap (IntKind.u64.wrap a * IntKind.u64.wrap b / 18446744073709551616 - IntKind.u64.wrap a))), .int .u64 (IntKind.u64.wrap a * IntKind.u64.wrap b % 18446744073709551616)]) (by simp [results, Tryd.results22, go_sem]) rfl ⟨ret_w ((wrap_wrap_u _ _).trans HP.out) HL.out, up1 _ _⟩
  · exact bodyPost_ret (v := .agg #[.int .i64 (wrap64 (IntKind.u64.wrap a * IntKind.u64.wrap b / 18446744073709551616)), .int .u64 (IntKind.u64.wrap a * IntKind.u64.wrap b % 18446744073709551616)]) (by simp [results, Tryd.results22, go_sem]) rfl ⟨ret_w (HP.out) HL.out, up1 _ _⟩

set_option maxRecDepth 100000 in
set_option maxHeartbeats 400000 in
theorem negated_any (a : Int) (w : World) :
    Calls Tryd.prog 49 #[.agg #[.int .i64 ((a) / 18446744073709551616), .int .u64 ((a) % 18446744073709551616)]] w fun e w' => e = .returned (.agg #[.int .i64 ((around (-a)) / 18446744073709551616), .int .u64 ((around (-a)) % 18446744073709551616)]) ∧ Below w.heap.size w w' := by
  have e0 : ∀ W : World, _ := fun W => sub2_eq 0 (a % 18446744073709551616) (Int.le_refl 0) (by decide) (lo_bd a).1 (lo_bd a).2 W
  rw [Int.zero_sub] at e0
  have H1 := Lib.hid (neg_hi a)
  have H2 := Lib.hid (neg_lo a)
  go_enter Tryd.func49, Tryd.ntmps49
  go_wp2_with fail
  exact bodyPost_ret (v := .agg #[.int .i64 (wrap64 (wrap64 (-(a / 18446744073709551616)) + -(a % 18446744073709551616) / 18446744073709551616)), .int .u64 (-(a % 18446744073709551616) % 18446744073709551616)]) (by simp [results, Tryd.results49, go_sem]) rfl ⟨ret_w H1.out H2.out, up2 _ _ _⟩

set_option maxRecDepth 100000 in
set_option maxHeartbeats 400000 in
theorem appended_any (a d : Int) (w : World) :
    Calls Tryd.prog 51 #[.agg #[.int .i64 ((a) / 18446744073709551616), .int .u64 ((a) % 18446744073709551616)], .int .u8 d] w fun e w' => e = .returned (.agg #[.int .i64 ((around (10 * a + (d - 48) % 256)) / 18446744073709551616), .int .u64 ((around (10 * a + (d - 48) % 256)) % 18446744073709551616)]) ∧ Below w.heap.size w w' := by
  have hw : IntKind.u8.wrap (d - 48) = (d - 48) % 256 := by rw [IntKind.wrap_u8]
  have CM := Lib.hid (mul64_any (a % 18446744073709551616) 10 (by have := lo_bd a; omega) (by omega))
  have e0 : ∀ W : World, _ := fun W => add2_eq (a % 18446744073709551616 * 10 % 18446744073709551616) ((d - 48) % 256) (by omega) (by omega) W
  have H1 := Lib.hid (ten_hi a ((d - 48) % 256))
  have H2 := Lib.hid (ten_lo a ((d - 48) % 256))
  go_enter Tryd.func51, Tryd.ntmps51
  go_wp2_with fail
  refine (CM.out _).mono ?_; rintro e w' ⟨rfl, rfl⟩
  go_wp2_with fail
  exact bodyPost_ret (v := .agg #[.int .i64 (wrap64 (wrap64 (10 * (a / 18446744073709551616)) + (a % 18446744073709551616 * 10 / 18446744073709551616 + (a % 18446744073709551616 * 10 % 18446744073709551616 + (d - 48) % 256) / 18446744073709551616))), .int .u64 ((a % 18446744073709551616 * 10 + (d - 48) % 256) % 18446744073709551616)]) (by simp [results, Tryd.results51, go_sem]) rfl ⟨ret_w H1.out H2.out, up2 _ _ _⟩

end Go.Proofs.YtedojpblfmkjeaaDoor
