/- Whole numbers with a sign, walked: of a long; the other sign; a sum. -/
import Derived.Test.YtmafkknnekkcdaaRefC
import Derived.Deep.RegionHeld3
namespace Go.Proofs.Ytmafkknnekkcdaa
open Go.RowKit

theorem NumV.form {w : World} {r : Value} {x : Int} (h : NumV w r x) : ∃ s A n c, r = .agg #[.bool s, .slice A n c] ∧ Hid (s = decide (x < 0)) ∧ NatV w (.slice A n c) (mag x) := by
  obtain ⟨v, e, hv⟩ := h
  obtain ⟨A, n, c, rfl⟩ := hv.form
  exact ⟨_, A, n, c, e, Lib.hid rfl, hv⟩
/-- The result's own cell, as it is made. -/
abbrev fresh : Obj := .cells #[.bool false, .slice none 0 0] 50
theorem stored_num {w w1 : World} {x : Int} {b : Bool} {A : Option Addr} {n c : Nat} {B0 B : Nat} {W : World} (h : NumV w1 (.agg #[.bool b, .slice A n c]) x) (hw : Below B0 w W) (hb : Below (B + 1) W w1) (hB : B0 ≤ B)
    (h0 : W.cell? ⟨B, 0, none⟩ = some (.bool false)) (h1 : W.cell? ⟨B, 1, none⟩ = some (.slice none 0 0)) :
    NumV ((w1.setCell ⟨B, 0, none⟩ (.bool b)).setCell ⟨B, 1, none⟩ (.slice A n c)) (.agg #[.bool b, .slice A n c]) x ∧ Below B0 w ((w1.setCell ⟨B, 0, none⟩ (.bool b)).setCell ⟨B, 1, none⟩ (.slice A n c)) :=
  NumV.stored h (hw.trans (hb.mono (by omega))) hB ⟨false, (hb.cell (p := ⟨B, 0, none⟩) (Nat.lt_succ_self _)).trans h0⟩ ⟨none, 0, 0, (hb.cell (p := ⟨B, 1, none⟩) (Nat.lt_succ_self _)).trans h1⟩
theorem cell_new1 (w : World) (o : Obj) (t : TypeId) : ((w.alloc o).alloc (.cells #[.bool false, .slice none 0 0] t)).cell? ⟨w.heap.size + 1, 0, none⟩ = some (.bool false) := by
  have h := World.cell?_alloc_new (w := w.alloc o) #[.bool false, .slice none 0 0] t 0
  rwa [World.size_alloc] at h
theorem cell_new1' (w : World) (o : Obj) (t : TypeId) : ((w.alloc o).alloc (.cells #[.bool false, .slice none 0 0] t)).cell? ⟨w.heap.size + 1, 1, none⟩ = some (.slice none 0 0) := by
  have h := World.cell?_alloc_new (w := w.alloc o) #[.bool false, .slice none 0 0] t 1
  rwa [World.size_alloc] at h
theorem field_limbs (b : Bool) (v : Value) (w : World) : (Instr.field 50 (.agg #[.bool b, v]) 1).run Try.prog w = .ok v w := by kernel_rfl

/-- A number of limbs that is small enough for any call. -/
theorem made_nat (neg : Bool) (v : Value) (m : Int) (w : World) (L : Nat) (h : NatV w v m) (hm : m < 65536 ^ L) (hL : L ≤ 100000) :
    Calls Try.prog 34 #[.bool neg, v] w (GivesN w (sided neg m)) := by
  obtain ⟨xs, hx, hn, rfl⟩ := h
  have := hn.len hx.2 hm
  exact made_any neg v xs w hx (by omega)
theorem pow4 : (65536 : Int) ^ 4 = 18446744073709551616 := by decide
theorem sided_mag_neg {x : Int} (h : x < 0) : sided true (mag x) = x := by rw [mag_neg h]; simp [sided]
theorem sided_not (x : Int) : sided (!decide (x < 0)) (mag x) = -x := by
  by_cases h : x < 0
  · rw [mag_neg h]; simp [h, sided]
  · rw [mag_pos h]; simp [h, sided]
theorem sided_self (x : Int) : sided (decide (x < 0)) (mag x) = x := by
  by_cases h : x < 0
  · rw [mag_neg h]; simp [h, sided]
  · rw [mag_pos h]; simp [h, sided]

theorem mag_word {x : Int} (h : -9223372036854775808 ≤ x) (hx : x < 0) : IntKind.u64.wrap (IntKind.u64.wrap (wrap64 (-(x + 1))) + 1) = mag x := by
  rw [mag_neg hx, IntKind.wrap_u64, IntKind.wrap_u64]; unfold wrap64; omega

set_option maxRecDepth 100000 in
set_option maxHeartbeats 1000000 in
theorem of_any (x : Int) (w : World) (hf : Fits x) :
    Calls Try.prog 21 #[.int .i64 x] w (GivesN w x) := by
  obtain ⟨f0, f1⟩ := hf
  have hfl := field_limbs
  by_cases hx : x < 0
  · go_enter Try.func21, Try.ntmps21
    have CW := Lib.hid (whole_any (-(x + 1) + 1) (w.alloc fresh) (by omega) (by omega))
    go_wp2_with fail
    refine (CW.out).mono ?_; rintro e w1 ⟨r, rfl, hr, hb1⟩
    obtain ⟨s, A, n, c, rfl, -, hnat⟩ := hr.form
    have em : mag (-(x + 1) + 1) = mag x := by rw [mag_neg hx, mag_pos (by omega)]; omega
    rw [em] at hnat
    have cm := made_nat true _ (mag x) w1 4 hnat (by rw [pow4, mag_neg hx]; omega) (by omega)
    rw [sided_mag_neg hx] at cm
    have CM := Lib.hid cm
    rw [World.size_alloc] at hb1
    clear cm hr hnat em CW
    go_wp2_with fail
    refine (CM.out).mono ?_; rintro e w2 ⟨r, rfl, hr, hb2⟩
    have HR := Lib.hid hr
    obtain ⟨s2, A2, n2, c2, rfl, -, -⟩ := hr.form
    have hb3 := hb1.trans (hb2.mono (by simpa using hb1.size))
    obtain ⟨hc, hf⟩ := bcell hb3
    have hs2 : w.heap.size + 1 ≤ w2.heap.size := by simpa using hb3.size
    go_wp2_with fail
    have hS := stored_num HR.out (below_new w fresh) hb3 (Nat.le_refl _) (by simp [World.cell?_alloc_new]) (by simp [World.cell?_alloc_new])
    exact bodyPost_ret (v := .agg #[.bool s2, .slice A2 n2 c2]) (by simp [results, Try.results21, go_sem, hc]) rfl ⟨_, rfl, hS⟩
  · have CW := Lib.hid (whole_any x (w.alloc fresh) (by omega) (by omega))
    go_enter Try.func21, Try.ntmps21
    go_wp2_with fail
    refine (CW.out).mono ?_; rintro e w1 ⟨r, rfl, hr, hb1⟩
    have HR := Lib.hid hr
    obtain ⟨s, A, n, c, rfl, -, -⟩ := hr.form
    rw [World.size_alloc] at hb1
    obtain ⟨hc, hf⟩ := bcell hb1
    have hs2 := hb1.size
    go_wp2_with fail
    have hS := stored_num HR.out (below_new w fresh) hb1 (Nat.le_refl _) (by simp [World.cell?_alloc_new]) (by simp [World.cell?_alloc_new])
    exact bodyPost_ret (v := .agg #[.bool s, .slice A n c]) (by simp [results, Try.results21, go_sem, hc]) rfl ⟨_, rfl, hS⟩

set_option maxRecDepth 100000 in
set_option maxHeartbeats 1000000 in
theorem neg_any (r : Value) (x : Int) (w : World) (L : Nat) (h : NumV w r x) (hx : mag x < 65536 ^ L) (hL : L ≤ 100000) :
    Calls Try.prog 41 #[r] w (GivesN w (-x)) := by
  obtain ⟨s, A, n, c, rfl, hs, hn⟩ := h.form
  have hbw : Below w.heap.size w ((w.alloc (.cells #[.bool s, .slice A n c] 50)).alloc fresh) := (below_new w _).alloc (by simp) fresh
  have cm := made_nat (!s) _ _ _ L (hn.below hbw) hx hL
  rw [hs.out, sided_not, ← hs.out] at cm
  have CM := Lib.hid cm
  clear cm h hn
  go_enter Try.func41, Try.ntmps41
  go_wp2_with fail
  refine (CM.out).mono ?_; rintro e w1 ⟨r, rfl, hr, hb1⟩
  have HR := Lib.hid hr
  obtain ⟨s2, A2, n2, c2, rfl, -, -⟩ := hr.form
  simp only [World.size_alloc] at hb1
  obtain ⟨hc, hf⟩ := bcell hb1
  have hs2 := hb1.size
  simp only [World.size_alloc] at hs2
  go_wp2_with fail
  have hS := stored_num HR.out hbw hb1 (Nat.le_succ _) (cell_new1 _ _ _) (cell_new1' _ _ _)
  exact bodyPost_ret (v := .agg #[.bool s2, .slice A2 n2 c2]) (by simp [results, Try.results41, go_sem, hc]) rfl ⟨_, rfl, hS⟩

/-- Two numbers and a result's cell, laid behind a world. -/
abbrev two (w : World) (s : Bool) (a : Value) (t : Bool) (b : Value) : World := ((w.alloc (.cells #[.bool s, a] 50)).alloc (.cells #[.bool t, b] 50)).alloc fresh
theorem below_two (w : World) (s : Bool) (a : Value) (t : Bool) (b : Value) : Below w.heap.size w (two w s a t b) := ((below_new w _).alloc (by simp) _).alloc (by simp; omega) _
theorem two_cells (w : World) (s : Bool) (a : Value) (t : Bool) (b : Value) :
    (two w s a t b).cell? ⟨w.heap.size, 0, none⟩ = some (.bool s) ∧ (two w s a t b).cell? ⟨w.heap.size, 1, none⟩ = some a ∧ (two w s a t b).cell? ⟨w.heap.size + 1, 0, none⟩ = some (.bool t) ∧ (two w s a t b).cell? ⟨w.heap.size + 1, 1, none⟩ = some b ∧
    (two w s a t b).cell? ⟨w.heap.size + 1 + 1, 0, none⟩ = some (.bool false) ∧ (two w s a t b).cell? ⟨w.heap.size + 1 + 1, 1, none⟩ = some (.slice none 0 0) := by
  have n1 : (w.alloc (.cells #[.bool s, a] 50)).heap.size = w.heap.size + 1 := World.size_alloc _ _
  have n2 : ((w.alloc (.cells #[.bool s, a] 50)).alloc (.cells #[.bool t, b] 50)).heap.size = w.heap.size + 1 + 1 := by simp
  have k1 := fun i => World.cell?_alloc_new (w := w) #[.bool s, a] 50 i
  have k2 := fun i => World.cell?_alloc_new (w := w.alloc (.cells #[.bool s, a] 50)) #[.bool t, b] 50 i
  have k3 := fun i => World.cell?_alloc_new (w := (w.alloc (.cells #[.bool s, a] 50)).alloc (.cells #[.bool t, b] 50)) #[.bool false, .slice none 0 0] 50 i
  rw [n1] at k2
  rw [n2] at k3
  have l2 := fun p (hp : p.block < w.heap.size + 1) => (below_new1 w (.cells #[.bool s, a] 50) (.cells #[.bool t, b] 50)).cell (p := p) hp
  have l3 := fun p (hp : p.block < w.heap.size + 1 + 1) => World.cell?_alloc_lt ((w.alloc (.cells #[.bool s, a] 50)).alloc (.cells #[.bool t, b] 50)) fresh p (by rw [n2]; exact hp)
  refine ⟨?_, ?_, ?_, ?_, ?_, ?_⟩
  · exact (l3 ⟨w.heap.size, 0, none⟩ (show w.heap.size < w.heap.size + 1 + 1 by omega)).trans ((l2 ⟨w.heap.size, 0, none⟩ (by simp)).trans (k1 0))
  · exact (l3 ⟨w.heap.size, 1, none⟩ (show w.heap.size < w.heap.size + 1 + 1 by omega)).trans ((l2 ⟨w.heap.size, 1, none⟩ (by simp)).trans (k1 1))
  · exact (l3 ⟨w.heap.size + 1, 0, none⟩ (by simp)).trans (k2 0)
  · exact (l3 ⟨w.heap.size + 1, 1, none⟩ (by simp)).trans (k2 1)
  · exact k3 0
  · exact k3 1

theorem two_size (w : World) (s : Bool) (a : Value) (t : Bool) (b : Value) : (two w s a t b).heap.size = w.heap.size + 1 + 1 + 1 := by simp
theorem two_frozen (w : World) (s : Bool) (a : Value) (t : Bool) (b : Value) (i : Nat) : (two w s a t b).frozen? ⟨w.heap.size + 1 + 1, i, none⟩ = false := by
  have n2 : ((w.alloc (.cells #[.bool s, a] 50)).alloc (.cells #[.bool t, b] 50)).heap.size = w.heap.size + 1 + 1 := by simp
  have h := heap_alloc_new ((w.alloc (.cells #[.bool s, a] 50)).alloc (.cells #[.bool t, b] 50)) fresh
  rw [n2] at h
  unfold World.frozen?
  show (match (two w s a t b).heap[w.heap.size + 1 + 1]? with | some (.cells _ _ (lo, hi)) => decide (lo ≤ i) && decide (i < hi) | _ => false) = false
  rw [show (two w s a t b).heap[w.heap.size + 1 + 1]? = some fresh from h]
  simp
/-- The world behind two steps that make memory, and the result's cell in it. -/
theorem two_done {w W w1 w2 : World} {x : Int} {r : Value} (hW : Below w.heap.size w W) (hs : W.heap.size = w.heap.size + 1 + 1 + 1) (h0 : W.cell? ⟨w.heap.size + 1 + 1, 0, none⟩ = some (.bool false)) (h1 : W.cell? ⟨w.heap.size + 1 + 1, 1, none⟩ = some (.slice none 0 0))
    (hp1 : Below W.heap.size W w1) (hp2 : Below w1.heap.size w1 w2) (hr : NumV w2 r x) : ∃ b A n c, r = .agg #[.bool b, .slice A n c] ∧ w.heap.size + 1 + 1 < w2.heap.size ∧
      GivesN w x (.returned r) ((w2.setCell ⟨w.heap.size + 1 + 1, 0, none⟩ (.bool b)).setCell ⟨w.heap.size + 1 + 1, 1, none⟩ (.slice A n c)) := by
  obtain ⟨b, A, n, c, rfl, -, -⟩ := hr.form
  have hp3 : Below (w.heap.size + 1 + 1 + 1) W w2 := by rw [← hs]; exact hp1.trans (hp2.mono hp1.size)
  have hS := stored_num hr hW hp3 (by omega) h0 h1
  exact ⟨b, A, n, c, rfl, by have := hp3.size; omega, _, rfl, hS⟩

/-- Two numbers' cells and the result's, in a world. -/
structure Six (w W : World) (s : Bool) (a : Value) (t : Bool) (b : Value) : Prop where
  c1 : W.cell? ⟨w.heap.size, 0, none⟩ = some (.bool s)
  c2 : W.cell? ⟨w.heap.size, 1, none⟩ = some a
  c3 : W.cell? ⟨w.heap.size + 1, 0, none⟩ = some (.bool t)
  c4 : W.cell? ⟨w.heap.size + 1, 1, none⟩ = some b
  c5 : W.cell? ⟨w.heap.size + 1 + 1, 0, none⟩ = some (.bool false)
  c6 : W.cell? ⟨w.heap.size + 1 + 1, 1, none⟩ = some (.slice none 0 0)
  f0 : W.frozen? ⟨w.heap.size + 1 + 1, 0, none⟩ = false
  f1 : W.frozen? ⟨w.heap.size + 1 + 1, 1, none⟩ = false
theorem six_two (w : World) (s : Bool) (a : Value) (t : Bool) (b : Value) : Six w (two w s a t b) s a t b := by
  obtain ⟨k1, k2, k3, k4, k5, k6⟩ := two_cells w s a t b
  exact ⟨k1, k2, k3, k4, k5, k6, two_frozen _ _ _ _ _ _, two_frozen _ _ _ _ _ _⟩
theorem Six.keep {w W w1 : World} {s : Bool} {a : Value} {t : Bool} {b : Value} (h : Six w W s a t b) (hz : W.heap.size = w.heap.size + 1 + 1 + 1) (hp : Below W.heap.size W w1) : Six w w1 s a t b := by
  obtain ⟨hc, hf⟩ := bcell hp
  exact ⟨(hc _ _ (by omega)).trans h.c1, (hc _ _ (by omega)).trans h.c2, (hc _ _ (by omega)).trans h.c3, (hc _ _ (by omega)).trans h.c4, (hc _ _ (by omega)).trans h.c5, (hc _ _ (by omega)).trans h.c6, (hf _ _ (by omega)).trans h.f0, (hf _ _ (by omega)).trans h.f1⟩
theorem Six.after {w W : World} {s : Bool} {a : Value} {t : Bool} {b : Value} (h : Six w W s a t b) (y z : Value) :
    ((W.setCell ⟨w.heap.size + 1 + 1, 0, none⟩ y).setCell ⟨w.heap.size + 1 + 1, 1, none⟩ z).cell? ⟨w.heap.size, 0, none⟩ = some (.bool s) ∧
    ((W.setCell ⟨w.heap.size + 1 + 1, 0, none⟩ y).setCell ⟨w.heap.size + 1 + 1, 1, none⟩ z).cell? ⟨w.heap.size, 1, none⟩ = some a ∧
    ((W.setCell ⟨w.heap.size + 1 + 1, 0, none⟩ y).setCell ⟨w.heap.size + 1 + 1, 1, none⟩ z).cell? ⟨w.heap.size + 1, 0, none⟩ = some (.bool t) ∧
    ((W.setCell ⟨w.heap.size + 1 + 1, 0, none⟩ y).setCell ⟨w.heap.size + 1 + 1, 1, none⟩ z).cell? ⟨w.heap.size + 1, 1, none⟩ = some b := by
  have e : ∀ b o, b ≠ w.heap.size + 1 + 1 → ((W.setCell ⟨w.heap.size + 1 + 1, 0, none⟩ y).setCell ⟨w.heap.size + 1 + 1, 1, none⟩ z).cell? ⟨b, o, none⟩ = W.cell? ⟨b, o, none⟩ := fun b o hb => by
    rw [World.cell?_setCell_other _ _ _ _ (fun e => hb (by injection e with e1; exact e1.symm)), World.cell?_setCell_other _ _ _ _ (fun e => hb (by injection e with e1; exact e1.symm))]
  exact ⟨(e _ _ (by omega)).trans h.c1, (e _ _ (by omega)).trans h.c2, (e _ _ (by omega)).trans h.c3, (e _ _ (by omega)).trans h.c4⟩
theorem Below.undrew {B : Nat} {W w1 : World} {n : Nat} (h : Below B (W.drewN n) w1) : Below B W w1 := ⟨h.os, h.tape, h.output, h.size, h.block⟩

set_option maxRecDepth 100000 in
set_option maxHeartbeats 1000000 in
theorem add_same (s : Bool) (A A' : Option Addr) (n c n' c' : Nat) (l m : Int) (w : World) (L : Nat) (ha : NatV w (.slice A n c) l) (hb : NatV w (.slice A' n' c') m) (hl : l < 65536 ^ L) (hm : m < 65536 ^ L) (hL : L ≤ 10000) :
    Calls Try.prog 20 #[.agg #[.bool s, .slice A n c], .agg #[.bool s, .slice A' n' c']] w (GivesN w (sided s (l + m))) := by
  have hlm : l + m < 65536 ^ (L + 1) := by rw [pow_succ']; have := pow_pos L; omega
  have hbw := below_two w s (.slice A n c) s (.slice A' n' c')
  have HA := Lib.hid (ha.below hbw)
  have HB := Lib.hid (hb.below hbw)
  have HS := six_two w s (.slice A n c) s (.slice A' n' c')
  have HZ := Lib.hid (two_size w s (.slice A n c) s (.slice A' n' c'))
  have HBW := Lib.hid hbw
  clear ha hb hbw
  go_enter Try.func20, Try.ntmps20
  go_upto_region 2 with fail
  change Code.wp _ _ _ _ (two w _ (Value.slice A n c) _ (Value.slice A' n' c'))
  generalize two w _ (Value.slice A n c) _ (Value.slice A' n' c') = W at *
  obtain ⟨k1, k2, k3, k4, k5, k6, f0, f1⟩ := id HS
  go_region_held3 (fun w' => w'.cell? ⟨w.heap.size, 0, none⟩ = some (.bool s) ∧ w'.cell? ⟨w.heap.size, 1, none⟩ = some (.slice A n c) ∧ w'.cell? ⟨w.heap.size + 1, 1, none⟩ = some (.slice A' n' c'))
    ((first | exact ⟨k1, k2, k4⟩ | exact ⟨j1, j2, j4⟩ | exact ⟨i1, i2, i4⟩ | (have hk := HS2.after (.bool b2) (.slice A2 n2 c2); exact ⟨hk.1, hk.2.1, hk.2.2.2⟩)))
    (first
      | (go_at_call 35; refine (plus_any _ _ l m _ L (by exact HA.out) (by exact HB.out) hl hm (by omega)).mono ?_; rintro e w1 ⟨r1, rfl, hr1, hq1⟩; have hp1 : Below W.heap.size W w1 := ⟨hq1.os, hq1.tape, hq1.output, hq1.size, hq1.block⟩; clear hq1; have HS1 := HS.keep HZ.out hp1; obtain ⟨j1, j2, j3, j4, j5, j6, j7, j8⟩ := id HS1)
      | (go_at_call 34; refine (made_nat _ _ (l + m) _ (L + 1) (by exact hr1) hlm (by omega)).mono ?_; rintro e w2 ⟨r2, rfl, hr2, hq2⟩; have hp2 : Below w1.heap.size w1 w2 := ⟨hq2.os, hq2.tape, hq2.output, hq2.size, hq2.block⟩; clear hq2; have HS2 := HS.keep HZ.out (hp1.trans (hp2.mono hp1.size)); obtain ⟨i1, i2, i3, i4, i5, i6, i7, i8⟩ := id HS2; obtain ⟨b2, A2, n2, c2, rfl, ho, hfin⟩ := two_done HBW.out HZ.out k5 k6 hp1 hp2 hr2))
  go_wp2_with fail
  exact bodyPost_ret (v := .agg #[.bool b2, .slice A2 n2 c2]) (by simp [results, Try.results20, go_sem, i5, i6]) rfl hfin
set_option maxRecDepth 100000 in
set_option maxHeartbeats 1000000 in
theorem add_down (s t : Bool) (hst : (s == t) = false) (A A' : Option Addr) (n c n' c' : Nat) (l m : Int) (w : World) (L : Nat) (ha : NatV w (.slice A n c) l) (hb : NatV w (.slice A' n' c') m) (hle : m ≤ l) (hl : l < 65536 ^ L) (hm : m < 65536 ^ L) (hL : L ≤ 10000) :
    Calls Try.prog 20 #[.agg #[.bool s, .slice A n c], .agg #[.bool t, .slice A' n' c']] w (GivesN w (sided s (l - m))) := by
  have hlm : l - m < 65536 ^ L := by have := hb.nonneg; omega
  have hbw := below_two w s (.slice A n c) t (.slice A' n' c')
  have HA := Lib.hid (ha.below hbw)
  have HB := Lib.hid (hb.below hbw)
  have HS := six_two w s (.slice A n c) t (.slice A' n' c')
  have HZ := Lib.hid (two_size w s (.slice A n c) t (.slice A' n' c'))
  have HBW := Lib.hid hbw
  have hcmp : 0 ≤ cmpI l m := by unfold cmpI; split; omega; rw [if_neg (by omega)]; omega
  have CA := Lib.hid (above_any _ _ l m _ L (ha.below hbw) (hb.below hbw) hl hm (by omega))
  have HLE : Hid (m ≤ l) := Lib.hid (by omega)
  clear ha hb hbw
  go_enter Try.func20, Try.ntmps20
  go_wp2_with fail
  refine (CA.out).mono ?_; rintro e w' ⟨rfl, rfl⟩
  go_upto_region 4 with fail
  change Code.wp _ _ _ _ (two w _ (Value.slice A n c) _ (Value.slice A' n' c'))
  generalize two w _ (Value.slice A n c) _ (Value.slice A' n' c') = W at *
  obtain ⟨k1, k2, k3, k4, k5, k6, f0, f1⟩ := id HS
  go_region_held3 (fun w' => w'.cell? ⟨w.heap.size, 0, none⟩ = some (.bool s) ∧ w'.cell? ⟨w.heap.size, 1, none⟩ = some (.slice A n c) ∧ w'.cell? ⟨w.heap.size + 1, 1, none⟩ = some (.slice A' n' c'))
    ((first | exact ⟨k1, k2, k4⟩ | exact ⟨j1, j2, j4⟩ | exact ⟨i1, i2, i4⟩ | (have hk := HS2.after (.bool b2) (.slice A2 n2 c2); exact ⟨hk.1, hk.2.1, hk.2.2.2⟩)))
    (first
      | (go_at_call 37; refine (minus_any _ _ l m _ L (by exact HA.out) (by exact HB.out) hl HLE.out (by omega)).mono ?_; rintro e w1 ⟨r1, rfl, hr1, hq1⟩; have hp1 : Below W.heap.size W w1 := ⟨hq1.os, hq1.tape, hq1.output, hq1.size, hq1.block⟩; clear hq1; have HS1 := HS.keep HZ.out hp1; obtain ⟨j1, j2, j3, j4, j5, j6, j7, j8⟩ := id HS1)
      | (go_at_call 34; refine (made_nat _ _ (l - m) _ L (by exact hr1) hlm (by omega)).mono ?_; rintro e w2 ⟨r2, rfl, hr2, hq2⟩; have hp2 : Below w1.heap.size w1 w2 := ⟨hq2.os, hq2.tape, hq2.output, hq2.size, hq2.block⟩; clear hq2; have HS2 := HS.keep HZ.out (hp1.trans (hp2.mono hp1.size)); obtain ⟨i1, i2, i3, i4, i5, i6, i7, i8⟩ := id HS2; obtain ⟨b2, A2, n2, c2, rfl, ho, hfin⟩ := two_done HBW.out HZ.out k5 k6 hp1 hp2 hr2))
  go_wp2_with fail
  exact bodyPost_ret (v := .agg #[.bool b2, .slice A2 n2 c2]) (by simp [results, Try.results20, go_sem, i5, i6]) rfl hfin

set_option maxRecDepth 100000 in
set_option maxHeartbeats 1000000 in
theorem add_up (s t : Bool) (hst : (s == t) = false) (A A' : Option Addr) (n c n' c' : Nat) (l m : Int) (w : World) (L : Nat) (ha : NatV w (.slice A n c) l) (hb : NatV w (.slice A' n' c') m) (hle : l < m) (hl : l < 65536 ^ L) (hm : m < 65536 ^ L) (hL : L ≤ 10000) :
    Calls Try.prog 20 #[.agg #[.bool s, .slice A n c], .agg #[.bool t, .slice A' n' c']] w (GivesN w (sided t (m - l))) := by
  have hlm : m - l < 65536 ^ L := by have := ha.nonneg; omega
  have hbw := below_two w s (.slice A n c) t (.slice A' n' c')
  have HA := Lib.hid (ha.below hbw)
  have HB := Lib.hid (hb.below hbw)
  have HS := six_two w s (.slice A n c) t (.slice A' n' c')
  have HZ := Lib.hid (two_size w s (.slice A n c) t (.slice A' n' c'))
  have HBW := Lib.hid hbw
  have hcmp : cmpI l m < 0 := by unfold cmpI; rw [if_neg (by omega), if_pos hle]; omega
  have CA := Lib.hid (above_any _ _ l m _ L (ha.below hbw) (hb.below hbw) hl hm (by omega))
  have HLE : Hid (l ≤ m) := Lib.hid (by omega)
  clear ha hb hbw
  go_enter Try.func20, Try.ntmps20
  go_wp2_with fail
  refine (CA.out).mono ?_; rintro e w' ⟨rfl, rfl⟩
  go_upto_region 5 with fail
  change Code.wp _ _ _ _ (two w _ (Value.slice A n c) _ (Value.slice A' n' c'))
  generalize two w _ (Value.slice A n c) _ (Value.slice A' n' c') = W at *
  obtain ⟨k1, k2, k3, k4, k5, k6, f0, f1⟩ := id HS
  go_region_held3 (fun w' => w'.cell? ⟨w.heap.size, 1, none⟩ = some (.slice A n c) ∧ w'.cell? ⟨w.heap.size + 1, 0, none⟩ = some (.bool t) ∧ w'.cell? ⟨w.heap.size + 1, 1, none⟩ = some (.slice A' n' c'))
    ((first | exact ⟨k2, k3, k4⟩ | exact ⟨j2, j3, j4⟩ | exact ⟨i2, i3, i4⟩ | (have hk := HS2.after (.bool b2) (.slice A2 n2 c2); exact ⟨hk.2.1, hk.2.2.1, hk.2.2.2⟩)))
    (first
      | (go_at_call 37; refine (minus_any _ _ m l _ L (by exact HB.out) (by exact HA.out) hm HLE.out (by omega)).mono ?_; rintro e w1 ⟨r1, rfl, hr1, hq1⟩; have hp1 : Below W.heap.size W w1 := ⟨hq1.os, hq1.tape, hq1.output, hq1.size, hq1.block⟩; clear hq1; have HS1 := HS.keep HZ.out hp1; obtain ⟨j1, j2, j3, j4, j5, j6, j7, j8⟩ := id HS1)
      | (go_at_call 34; refine (made_nat _ _ (m - l) _ L (by exact hr1) hlm (by omega)).mono ?_; rintro e w2 ⟨r2, rfl, hr2, hq2⟩; have hp2 : Below w1.heap.size w1 w2 := ⟨hq2.os, hq2.tape, hq2.output, hq2.size, hq2.block⟩; clear hq2; have HS2 := HS.keep HZ.out (hp1.trans (hp2.mono hp1.size)); obtain ⟨i1, i2, i3, i4, i5, i6, i7, i8⟩ := id HS2; obtain ⟨b2, A2, n2, c2, rfl, ho, hfin⟩ := two_done HBW.out HZ.out k5 k6 hp1 hp2 hr2))
  go_wp2_with fail
  exact bodyPost_ret (v := .agg #[.bool b2, .slice A2 n2 c2]) (by simp [results, Try.results20, go_sem, i5, i6]) rfl hfin

theorem addN_any (r u : Value) (x y : Int) (w : World) (L : Nat) (hx : NumV w r x) (hy : NumV w u y) (lx : mag x < 65536 ^ L) (ly : mag y < 65536 ^ L) (hL : L ≤ 10000) :
    Calls Try.prog 20 #[r, u] w (GivesN w (x + y)) := by
  obtain ⟨s, A, n, c, rfl, hs, ha⟩ := hx.form
  obtain ⟨t, A', n', c', rfl, ht, hb⟩ := hy.form
  have hs := hs.out
  have ht := ht.out
  by_cases e : s = t
  · subst e
    have h := add_same s A A' n c n' c' (mag x) (mag y) w L ha hb lx ly hL
    have e1 : sided s (mag x + mag y) = x + y := by
      rw [hs] at ht
      have := decide_eq_decide.1 ht
      rw [hs]; unfold sided mag
      by_cases h1 : x < 0 <;> simp [h1] <;> omega
    rwa [e1] at h
  · have he : (s == t) = false := by simpa using e
    have hd : ¬ (x < 0 ↔ y < 0) := fun k => e (by rw [hs, ht, decide_eq_decide]; exact k)
    rcases Int.lt_or_le (mag x) (mag y) with k | k
    · have h := add_up s t he A A' n c n' c' (mag x) (mag y) w L ha hb k lx ly hL
      have e1 : sided t (mag y - mag x) = x + y := by
        rw [ht]; unfold sided mag at *
        by_cases h1 : x < 0 <;> by_cases h2 : y < 0 <;> simp [h1, h2] at * <;> omega
      rwa [e1] at h
    · have h := add_down s t he A A' n c n' c' (mag x) (mag y) w L ha hb k lx ly hL
      have e1 : sided s (mag x - mag y) = x + y := by
        rw [hs]; unfold sided mag at *
        by_cases h1 : x < 0 <;> by_cases h2 : y < 0 <;> simp [h1, h2] at * <;> omega
      rwa [e1] at h
end Go.Proofs.Ytmafkknnekkcdaa
