/- The document's own gaps: Right, Shift, Grow and Mid of noonmarkref03, and law 3's 'of', walked. -/
import Derived.Test.YthkeofpmappdhaaToldA
import Derived.Test.YthkeofpmappdhaaNumAt
import Derived.Test.YthkeofpmappdhaaRefHd
import Derived.Laws.StructEq
import Derived.Deep.RegionHeld3
import Derived.Deep.CutBlock
import Derived.Deep.DeepCutAuto
namespace Go.Proofs.Ythkeofpmappdhaa
open Go.RowKit

/-- Block b holds two values, and they may be written. -/
structure At2 (w : World) (b : Nat) (x y : Value) : Prop where
  c0 : w.cell? ⟨b, 0, none⟩ = some x
  c1 : w.cell? ⟨b, 1, none⟩ = some y
  f0 : w.frozen? ⟨b, 0, none⟩ = false
  f1 : w.frozen? ⟨b, 1, none⟩ = false
section
variable {w w1 : World} {b : Nat} {x y : Value}
theorem At2.lt (a : At2 w b x y) : b < w.heap.size := World.block_lt_of_cell? _ _ a.c0
theorem At2.below (a : At2 w b x y) (hb : Below w.heap.size w w1) : At2 w1 b x y := by
  obtain ⟨hc, hf⟩ := bcell hb
  have := a.lt
  exact ⟨(hc _ _ this).trans a.c0, (hc _ _ this).trans a.c1, (hf _ _ this).trans a.f0, (hf _ _ this).trans a.f1⟩
theorem At2.drew (a : At2 w b x y) : At2 w.drew b x y := ⟨a.c0, a.c1, a.f0, a.f1⟩
theorem At2.drewN (a : At2 w b x y) (n : Nat) : At2 (w.drewN n) b x y := ⟨a.c0, a.c1, a.f0, a.f1⟩
theorem At2.alloc (a : At2 w b x y) (o : Obj) : At2 (w.alloc o) b x y := a.below (below_new w o)
theorem At2.other (a : At2 w b x y) {b' : Nat} (hb : b ≠ b') (i : Nat) (u : Value) : At2 (w.setCell ⟨b', i, none⟩ u) b x y := by
  have e : ∀ j, (w.setCell ⟨b', i, none⟩ u).cell? ⟨b, j, none⟩ = w.cell? ⟨b, j, none⟩ := fun j => by
    rw [World.cell?_setCell_other _ _ _ _ (fun e => hb (by injection e with e1; exact e1.symm))]
  exact ⟨(e 0).trans a.c0, (e 1).trans a.c1, by simpa using a.f0, by simpa using a.f1⟩
theorem At2.set0 (a : At2 w b x y) (x' : Value) : At2 (w.setCell ⟨b, 0, none⟩ x') b x' y :=
  ⟨World.cell?_setCell_same _ _ _ a.c0, by rw [World.cell?_setCell_other _ _ _ _ (by simp)]; exact a.c1, by simpa using a.f0, by simpa using a.f1⟩
theorem At2.set1 (a : At2 w b x y) (y' : Value) : At2 (w.setCell ⟨b, 1, none⟩ y') b x y' :=
  ⟨by rw [World.cell?_setCell_other _ _ _ _ (by simp)]; exact a.c0, World.cell?_setCell_same _ _ _ a.c1, by simpa using a.f0, by simpa using a.f1⟩
end
theorem At2.new (w : World) (x y : Value) (t : TypeId) : At2 (w.alloc (.cells #[x, y] t)) w.heap.size x y := by
  have fz : ∀ i, (w.alloc (.cells #[x, y] t)).frozen? ⟨w.heap.size, i, none⟩ = false := fun i => by
    unfold World.frozen?
    show (match (w.alloc (.cells #[x, y] t)).heap[w.heap.size]? with | some (.cells _ _ (lo, hi)) => decide (lo ≤ i) && decide (i < hi) | _ => false) = false
    rw [heap_alloc_new]; simp
  exact ⟨World.cell?_alloc_new (w := w) _ _ 0, World.cell?_alloc_new (w := w) _ _ 1, fz 0, fz 1⟩
theorem grew1 (w : World) (o : Obj) : Below w.heap.size w (w.alloc o) := (Below.refl _ _).alloc (Nat.le_refl _) o
theorem grew2 (w : World) (o p : Obj) : Below w.heap.size w ((w.alloc o).alloc p) := (grew1 w o).alloc (by simp) p
theorem grew3 (w : World) (o p q : Obj) : Below w.heap.size w (((w.alloc o).alloc p).alloc q) := (grew2 w o p).alloc (by simp; omega) q

/-! the document's own answers, as numbers -/
/-- Shift: the ends and the error's number. -/
def shiftI (a b y : Int) : Int × Int × Int := if b < a then (0, 0, 10) else if Fits (a + y) ∧ Fits (b + y) then (a + y, b + y, 0) else (0, 0, 12)
/-- Grow: the ends and the error's number. -/
def growI (a b l h : Int) : Int × Int × Int := if b < a then (0, 0, 10) else if Fits (a - l) ∧ Fits (b + h) then (if b + h < a - l then (0, 0, 13) else (a - l, b + h, 0)) else (0, 0, 12)
/-- Mid: rounded down. -/
def midI (a b : Int) : Int := if b < a then 0 else (a + b) / 2
/-- What is answered: a gap and an error's number. -/
def GapE (r : Int × Int × Int) (e : Ending) : Prop := e = .returned (.tuple #[.agg #[.int .i64 r.1, .int .i64 r.2.1], .int .i64 r.2.2])
theorem toldE_both {x y : Int} (h : ¬ (Fits x ∧ Fits y)) : toldE x = 12 ∨ (toldE x = 0 ∧ toldE y = 12) := by
  by_cases hx : Fits x
  · exact Or.inr ⟨toldE_fit hx, toldE_over fun k => h ⟨hx, k⟩⟩
  · exact Or.inl (toldE_over hx)

set_option maxRecDepth 100000 in
set_option maxHeartbeats 400000 in
theorem rRight_any (a b : Int) (w : World) :
    Calls Try.prog 28 #[.agg #[.int .i64 a, .int .i64 b]] w fun e w' => e = .returned (.bool (decide (a ≤ b))) ∧ Below w.heap.size w w' := by
  go_enter Try.func28, Try.ntmps28
  go_wp2_with fail
  go_ret
  exact ⟨rfl, grew1 _ _⟩

set_option maxRecDepth 100000 in
set_option maxHeartbeats 400000 in
theorem of3_any (a b : Int) (w : World) :
    Calls Try.prog 12 #[.agg #[.int .i64 a, .int .i64 b]] w fun e w' => e = .returned (.agg #[.int .i64 a, .int .i64 b]) ∧ Below w.heap.size w w' := by
  go_enter Try.func12, Try.ntmps12
  go_wp2_with fail
  exact bodyPost_ret (v := .agg #[.int .i64 a, .int .i64 b]) (by simp [results, Try.results12, go_sem]) rfl ⟨rfl, grew2 _ _ _⟩

set_option maxRecDepth 100000 in
set_option maxHeartbeats 2000000 in
theorem rShift_any (a b y : Int) (w : World) (ha : Fits a) (hb : Fits b) (hy : Fits y) :
    Calls Try.prog 11 #[.agg #[.int .i64 a, .int .i64 b], .int .i64 y] w fun e w' => GapE (shiftI a b y) e ∧ Below w.heap.size w w' := by
  have CR := Lib.hid (rRight_any a b)
  have C1 := Lib.hid fun W => refPlus_any a y ha hy W
  have C2 := Lib.hid fun W => refPlus_any b y hb hy W
  have hA := (At2.new w (.int .i64 a) (.int .i64 b) 31).alloc (.cells #[.int .i64 0, .int .i64 0] 31)
  have hR := At2.new (w.alloc (.cells #[.int .i64 a, .int .i64 b] 31)) (.int .i64 0) (.int .i64 0) 31
  rw [World.size_alloc] at hR
  have B0 := grew2 w (.cells #[.int .i64 a, .int .i64 b] 31) (.cells #[.int .i64 0, .int .i64 0] 31)
  by_cases hr : b < a
  · have e1 : decide (a ≤ b) = false := decide_eq_false (by omega)
    have HS : Hid (shiftI a b y = (0, 0, 10)) := Lib.hid (if_pos hr)
    clear hr
    go_enter Try.func11, Try.ntmps11
    go_wp2_with fail
    refine (CR.out _).mono ?_; rintro e w1 ⟨rfl, h1⟩
    replace hA := hA.below h1
    replace hR := hR.below h1
    have HB1 := Lib.hid (ext_step B0 h1)
    obtain ⟨r0, r1, r2, r3⟩ := id hR
    go_wp2_with fail
    exact bodyPost_ret (v := .tuple #[.agg #[.int .i64 (0), .int .i64 (0)], .int .i64 10]) (by simp [results, Try.results11, go_sem, r0, r1]) rfl ⟨by rw [HS.out]; rfl, ext_put (ext_put HB1.out (Nat.le_succ _) _) (Nat.le_succ _) _⟩
  have e1 : decide (a ≤ b) = true := decide_eq_true (by omega)
  by_cases hf : Fits (a + y) ∧ Fits (b + y)
  · have HS : Hid (shiftI a b y = (a + y, b + y, 0)) := Lib.hid (by unfold shiftI; rw [if_neg hr, if_pos hf])
    have v1 := toldV_fit hf.1
    have v2 := toldV_fit hf.2
    have f1 := toldE_fit hf.1
    have f2 := toldE_fit hf.2
    clear hr hf
    go_enter Try.func11, Try.ntmps11
    go_wp2_with fail
    refine (CR.out _).mono ?_; rintro e w1 ⟨rfl, h1⟩
    replace hA := hA.below h1
    replace hR := hR.below h1
    have HB1 := Lib.hid (ext_step B0 h1)
    obtain ⟨a0, a1, -, -⟩ := id hA
    go_wp2_with fail
    refine (C1.out _).mono ?_; rintro e w2 ⟨rfl, h2⟩
    clear a0 a1
    replace hA := hA.below h2
    replace hR := hR.below h2
    have HB2 := Lib.hid (ext_step HB1.out h2)
    obtain ⟨a0, a1, -, -⟩ := id hA
    go_wp2_with fail
    refine (C2.out _).mono ?_; rintro e w3 ⟨rfl, h3⟩
    clear a0 a1
    replace hR := hR.below h3
    have HB3 := Lib.hid (ext_step HB2.out h3)
    obtain ⟨r0, r1, r2, r3⟩ := id hR
    go_wp2_with fail
    exact bodyPost_ret (v := .tuple #[.agg #[.int .i64 (a + y), .int .i64 (b + y)], .int .i64 0]) (by simp [results, Try.results11, go_sem, r0, r1]) rfl ⟨by rw [HS.out]; rfl, ext_put (ext_put HB3.out (Nat.le_succ _) _) (Nat.le_succ _) _⟩
  · have HS : Hid (shiftI a b y = (0, 0, 12)) := Lib.hid (by unfold shiftI; rw [if_neg hr, if_neg hf])
    rcases toldE_both hf with f1 | ⟨f1, f2⟩
    · clear hr hf
      go_enter Try.func11, Try.ntmps11
      go_wp2_with fail
      refine (CR.out _).mono ?_; rintro e w1 ⟨rfl, h1⟩
      replace hA := hA.below h1
      replace hR := hR.below h1
      have HB1 := Lib.hid (ext_step B0 h1)
      obtain ⟨a0, a1, -, -⟩ := id hA
      go_wp2_with fail
      refine (C1.out _).mono ?_; rintro e w2 ⟨rfl, h2⟩
      clear a0 a1
      replace hA := hA.below h2
      replace hR := hR.below h2
      have HB2 := Lib.hid (ext_step HB1.out h2)
      obtain ⟨a0, a1, -, -⟩ := id hA
      go_wp2_with fail
      refine (C2.out _).mono ?_; rintro e w3 ⟨rfl, h3⟩
      clear a0 a1
      replace hR := hR.below h3
      have HB3 := Lib.hid (ext_step HB2.out h3)
      obtain ⟨r0, r1, r2, r3⟩ := id hR
      go_wp2_with fail
      exact bodyPost_ret (v := .tuple #[.agg #[.int .i64 (0), .int .i64 (0)], .int .i64 12]) (by simp [results, Try.results11, go_sem, r0, r1]) rfl ⟨by rw [HS.out]; rfl, ext_put (ext_put HB3.out (Nat.le_succ _) _) (Nat.le_succ _) _⟩
    · clear hr hf
      go_enter Try.func11, Try.ntmps11
      go_wp2_with fail
      refine (CR.out _).mono ?_; rintro e w1 ⟨rfl, h1⟩
      replace hA := hA.below h1
      replace hR := hR.below h1
      have HB1 := Lib.hid (ext_step B0 h1)
      obtain ⟨a0, a1, -, -⟩ := id hA
      go_wp2_with fail
      refine (C1.out _).mono ?_; rintro e w2 ⟨rfl, h2⟩
      clear a0 a1
      replace hA := hA.below h2
      replace hR := hR.below h2
      have HB2 := Lib.hid (ext_step HB1.out h2)
      obtain ⟨a0, a1, -, -⟩ := id hA
      go_wp2_with fail
      refine (C2.out _).mono ?_; rintro e w3 ⟨rfl, h3⟩
      clear a0 a1
      replace hR := hR.below h3
      have HB3 := Lib.hid (ext_step HB2.out h3)
      obtain ⟨r0, r1, r2, r3⟩ := id hR
      go_wp2_with fail
      exact bodyPost_ret (v := .tuple #[.agg #[.int .i64 (0), .int .i64 (0)], .int .i64 12]) (by simp [results, Try.results11, go_sem, r0, r1]) rfl ⟨by rw [HS.out]; rfl, ext_put (ext_put HB3.out (Nat.le_succ _) _) (Nat.le_succ _) _⟩

set_option maxRecDepth 100000 in
set_option maxHeartbeats 2000000 in
theorem rGrow_any (a b l h : Int) (w : World) (ha : Fits a) (hb : Fits b) (hl : Fits l) (hh : Fits h) :
    Calls Try.prog 13 #[.agg #[.int .i64 a, .int .i64 b], .int .i64 l, .int .i64 h] w fun e w' => GapE (growI a b l h) e ∧ Below w.heap.size w w' := by
  have CR := Lib.hid (rRight_any a b)
  have C1 := Lib.hid fun W => refMinus_any a l ha hl W
  have C2 := Lib.hid fun W => refPlus_any b h hb hh W
  have hA := (At2.new w (.int .i64 a) (.int .i64 b) 31).alloc (.cells #[.int .i64 0, .int .i64 0] 31)
  have hR := At2.new (w.alloc (.cells #[.int .i64 a, .int .i64 b] 31)) (.int .i64 0) (.int .i64 0) 31
  rw [World.size_alloc] at hR
  have B0 := grew2 w (.cells #[.int .i64 a, .int .i64 b] 31) (.cells #[.int .i64 0, .int .i64 0] 31)
  by_cases hr : b < a
  · have e1 : decide (a ≤ b) = false := decide_eq_false (by omega)
    have HS : Hid (growI a b l h = (0, 0, 10)) := Lib.hid (if_pos hr)
    clear hr
    go_enter Try.func13, Try.ntmps13
    go_wp2_with fail
    refine (CR.out _).mono ?_; rintro e w1 ⟨rfl, h1⟩
    replace hA := hA.below h1
    replace hR := hR.below h1
    have HB1 := Lib.hid (ext_step B0 h1)
    obtain ⟨r0, r1, r2, r3⟩ := id hR
    go_wp2_with fail
    exact bodyPost_ret (v := .tuple #[.agg #[.int .i64 (0), .int .i64 (0)], .int .i64 10]) (by simp [results, Try.results13, go_sem, r0, r1]) rfl ⟨by rw [HS.out]; rfl, ext_put (ext_put HB1.out (Nat.le_succ _) _) (Nat.le_succ _) _⟩
  have e1 : decide (a ≤ b) = true := decide_eq_true (by omega)
  by_cases hf : Fits (a - l) ∧ Fits (b + h)
  · by_cases hc : b + h < a - l
    · have HS : Hid (growI a b l h = (0, 0, 13)) := Lib.hid (by unfold growI; rw [if_neg hr, if_pos hf, if_pos hc])
      have v1 := toldV_fit hf.1
      have v2 := toldV_fit hf.2
      have f1 := toldE_fit hf.1
      have f2 := toldE_fit hf.2
      clear hr hf
      go_enter Try.func13, Try.ntmps13
      go_wp2_with fail
      refine (CR.out _).mono ?_; rintro e w1 ⟨rfl, h1⟩
      replace hA := hA.below h1
      replace hR := hR.below h1
      have HB1 := Lib.hid (ext_step B0 h1)
      obtain ⟨a0, a1, -, -⟩ := id hA
      go_wp2_with fail
      refine (C1.out _).mono ?_; rintro e w2 ⟨rfl, h2⟩
      clear a0 a1
      replace hA := hA.below h2
      replace hR := hR.below h2
      have HB2 := Lib.hid (ext_step HB1.out h2)
      obtain ⟨a0, a1, -, -⟩ := id hA
      go_wp2_with fail
      refine (C2.out _).mono ?_; rintro e w3 ⟨rfl, h3⟩
      clear a0 a1
      replace hR := hR.below h3
      have HB3 := Lib.hid (ext_step HB2.out h3)
      obtain ⟨r0, r1, r2, r3⟩ := id hR
      go_wp2_with fail
      exact bodyPost_ret (v := .tuple #[.agg #[.int .i64 (0), .int .i64 (0)], .int .i64 13]) (by simp [results, Try.results13, go_sem, r0, r1]) rfl ⟨by rw [HS.out]; rfl, ext_put (ext_put HB3.out (Nat.le_succ _) _) (Nat.le_succ _) _⟩
    · have HS : Hid (growI a b l h = (a - l, b + h, 0)) := Lib.hid (by unfold growI; rw [if_neg hr, if_pos hf, if_neg hc])
      have v1 := toldV_fit hf.1
      have v2 := toldV_fit hf.2
      have f1 := toldE_fit hf.1
      have f2 := toldE_fit hf.2
      clear hr hf
      go_enter Try.func13, Try.ntmps13
      go_wp2_with fail
      refine (CR.out _).mono ?_; rintro e w1 ⟨rfl, h1⟩
      replace hA := hA.below h1
      replace hR := hR.below h1
      have HB1 := Lib.hid (ext_step B0 h1)
      obtain ⟨a0, a1, -, -⟩ := id hA
      go_wp2_with fail
      refine (C1.out _).mono ?_; rintro e w2 ⟨rfl, h2⟩
      clear a0 a1
      replace hA := hA.below h2
      replace hR := hR.below h2
      have HB2 := Lib.hid (ext_step HB1.out h2)
      obtain ⟨a0, a1, -, -⟩ := id hA
      go_wp2_with fail
      refine (C2.out _).mono ?_; rintro e w3 ⟨rfl, h3⟩
      clear a0 a1
      replace hR := hR.below h3
      have HB3 := Lib.hid (ext_step HB2.out h3)
      obtain ⟨r0, r1, r2, r3⟩ := id hR
      go_wp2_with fail
      exact bodyPost_ret (v := .tuple #[.agg #[.int .i64 (a - l), .int .i64 (b + h)], .int .i64 0]) (by simp [results, Try.results13, go_sem, r0, r1]) rfl ⟨by rw [HS.out]; rfl, ext_put (ext_put HB3.out (Nat.le_succ _) _) (Nat.le_succ _) _⟩
  · have HS : Hid (growI a b l h = (0, 0, 12)) := Lib.hid (by unfold growI; rw [if_neg hr, if_neg hf])
    rcases toldE_both hf with f1 | ⟨f1, f2⟩
    · clear hr hf
      go_enter Try.func13, Try.ntmps13
      go_wp2_with fail
      refine (CR.out _).mono ?_; rintro e w1 ⟨rfl, h1⟩
      replace hA := hA.below h1
      replace hR := hR.below h1
      have HB1 := Lib.hid (ext_step B0 h1)
      obtain ⟨a0, a1, -, -⟩ := id hA
      go_wp2_with fail
      refine (C1.out _).mono ?_; rintro e w2 ⟨rfl, h2⟩
      clear a0 a1
      replace hA := hA.below h2
      replace hR := hR.below h2
      have HB2 := Lib.hid (ext_step HB1.out h2)
      obtain ⟨a0, a1, -, -⟩ := id hA
      go_wp2_with fail
      refine (C2.out _).mono ?_; rintro e w3 ⟨rfl, h3⟩
      clear a0 a1
      replace hR := hR.below h3
      have HB3 := Lib.hid (ext_step HB2.out h3)
      obtain ⟨r0, r1, r2, r3⟩ := id hR
      go_wp2_with fail
      exact bodyPost_ret (v := .tuple #[.agg #[.int .i64 (0), .int .i64 (0)], .int .i64 12]) (by simp [results, Try.results13, go_sem, r0, r1]) rfl ⟨by rw [HS.out]; rfl, ext_put (ext_put HB3.out (Nat.le_succ _) _) (Nat.le_succ _) _⟩
    · clear hr hf
      go_enter Try.func13, Try.ntmps13
      go_wp2_with fail
      refine (CR.out _).mono ?_; rintro e w1 ⟨rfl, h1⟩
      replace hA := hA.below h1
      replace hR := hR.below h1
      have HB1 := Lib.hid (ext_step B0 h1)
      obtain ⟨a0, a1, -, -⟩ := id hA
      go_wp2_with fail
      refine (C1.out _).mono ?_; rintro e w2 ⟨rfl, h2⟩
      clear a0 a1
      replace hA := hA.below h2
      replace hR := hR.below h2
      have HB2 := Lib.hid (ext_step HB1.out h2)
      obtain ⟨a0, a1, -, -⟩ := id hA
      go_wp2_with fail
      refine (C2.out _).mono ?_; rintro e w3 ⟨rfl, h3⟩
      clear a0 a1
      replace hR := hR.below h3
      have HB3 := Lib.hid (ext_step HB2.out h3)
      obtain ⟨r0, r1, r2, r3⟩ := id hR
      go_wp2_with fail
      exact bodyPost_ret (v := .tuple #[.agg #[.int .i64 (0), .int .i64 (0)], .int .i64 12]) (by simp [results, Try.results13, go_sem, r0, r1]) rfl ⟨by rw [HS.out]; rfl, ext_put (ext_put HB3.out (Nat.le_succ _) _) (Nat.le_succ _) _⟩

end Go.Proofs.Ythkeofpmappdhaa
