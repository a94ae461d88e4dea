/- Law 3's GapAnswers, walked from package gap's contracts. -/
import Derived.Test.YthkeofpmappdhaaGapC
import Derived.Test.YthkeofpmappdhaaTake
namespace Go.Proofs.Ythkeofpmappdhaa
open Go.RowKit

theorem width_wrap1 {a b : Int} (ha : Fits a) (hb : Fits b) (h : a ≤ b) : (b - a == IntKind.u64.wrap (IntKind.u64.wrap b - IntKind.u64.wrap a)) = true := by
  unfold Fits at *
  rw [beq_iff_eq]
  simp [IntKind.wrap, IntKind.signed, IntKind.bits]
  omega

set_option maxRecDepth 100000 in
set_option maxHeartbeats 8000000 in
theorem gapAnswers_lt (G : GapC) (a b c d x y : Int) (w : World) (ha : Fits a) (hb : Fits b) (hx : Fits x) (hy : Fits y) (hr : a ≤ b) (hk : x < a) :
    Calls Try.prog 3 #[gapV a b, gapV c d, .int .i64 x, .int .i64 y] w fun e w' => e = .returned (.bool true) ∧ Below w.heap.size w w' := by
  have CAL := Lib.hid (alive3_any G)
  have CN := Lib.hid fun W => gcall_as (Q' := fun e w' => e = .returned (.tuple #[gapV a b, .bool true]) ∧ Below W.heap.size W w') (G.new a b W ha hb) rfl fun e w' ⟨he, h⟩ => ⟨by rw [he, if_pos hr, if_pos hr, decide_eq_true hr], h⟩
  have CS := Lib.hid fun W => G.shift a b x W ha hb hx
  have CG := Lib.hid fun W => G.grow a b x y W ha hb hx hy
  have CP := Lib.hid fun W => rShift_any a b x W ha hb hx
  have CQ := Lib.hid fun W => rGrow_any a b x y W ha hb hx hy
  have CF := Lib.hid fun u v W => of3_any u v W
  have CM := Lib.hid fun W => G.mid a b W ha hb
  have CK := Lib.hid fun W => rMid_any a b W ha hb
  have CR := Lib.hid (G.right a b)
  have CH := Lib.hid (G.has a b x)
  have CI := Lib.hid (G.within a b c d)
  have CJ := Lib.hid (G.within c d a b)
  have CW := Lib.hid fun W => G.width a b W ha hb
  unfold GapE at CS CG CP CQ
  generalize shiftI a b x = sh at *
  generalize growI a b x y = gr at *
  obtain ⟨s1, s2, s3⟩ := sh
  obtain ⟨g1, g2, g3⟩ := gr
  dsimp only at CS CG CP CQ
  generalize midI a b = md at *
  have er : decide (a ≤ b) = true := decide_eq_true hr
  rw [er] at CR
  have HRR := Lib.hid hr
  have HFA := Lib.hid ha
  have HFB := Lib.hid hb
  have HKX := Lib.hid hk
  clear G hr ha hb hx hy hk
  have hA := (At2.new w (.int .i64 a) (.int .i64 b) 23).alloc (.cells #[.int .i64 c, .int .i64 d] 23)
  have hO := At2.new (w.alloc (.cells #[.int .i64 a, .int .i64 b] 23)) (.int .i64 c) (.int .i64 d) 23
  rw [World.size_alloc] at hO
  have hBL := grew2 w (.cells #[.int .i64 a, .int .i64 b] 23) (.cells #[.int .i64 c, .int .i64 d] 23)
  go_enter Try.func3, Try.ntmps3
  go_wp2_with fail
  refine (CAL.out _).mono ?_; rintro e w1 ⟨rfl, h⟩
  replace hA := hA.below h; replace hO := hO.below h; replace hBL := ext_step hBL h; clear h
  obtain ⟨a0, a1, -, -⟩ := id hA
  go_wp2_with fail
  clear a0 a1
  refine (CN.out w1).mono ?_; rintro e w2 ⟨rfl, h⟩
  replace hA := (hA.below h).alloc (.cells #[.int .i64 a, .int .i64 b] 23)
  replace hO := (hO.below h).alloc (.cells #[.int .i64 a, .int .i64 b] 23)
  replace hBL := ext_alloc (ext_step hBL h) (.cells #[.int .i64 a, .int .i64 b] 23); clear h
  have hN := At2.new w2 (.int .i64 a) (.int .i64 b) 23
  generalize hgN : w2.heap.size = gN at hN
  obtain ⟨a0, a1, -, -⟩ := id hA
  go_wp2_with fail
  generalize w2.alloc (.cells #[.int .i64 a, .int .i64 b] 23) = W2 at *
  clear a0 a1
  refine (CS.out W2).mono ?_; rintro e w3 ⟨rfl, h⟩
  replace hA := (hA.below h).alloc (.cells #[.int .i64 s1, .int .i64 s2] 23)
  replace hO := (hO.below h).alloc (.cells #[.int .i64 s1, .int .i64 s2] 23)
  replace hN := (hN.below h).alloc (.cells #[.int .i64 s1, .int .i64 s2] 23)
  replace hBL := ext_alloc (ext_step hBL h) (.cells #[.int .i64 s1, .int .i64 s2] 23); clear h
  have hS := At2.new w3 (.int .i64 s1) (.int .i64 s2) 23
  generalize hgS : w3.heap.size = gS at hS
  obtain ⟨a0, a1, -, -⟩ := id hA
  go_wp2_with fail
  generalize w3.alloc (.cells #[.int .i64 s1, .int .i64 s2] 23) = W3 at *
  clear a0 a1
  refine (CG.out W3).mono ?_; rintro e w4 ⟨rfl, h⟩
  replace hA := (hA.below h).alloc (.cells #[.int .i64 g1, .int .i64 g2] 23)
  replace hO := (hO.below h).alloc (.cells #[.int .i64 g1, .int .i64 g2] 23)
  replace hN := (hN.below h).alloc (.cells #[.int .i64 g1, .int .i64 g2] 23)
  replace hS := (hS.below h).alloc (.cells #[.int .i64 g1, .int .i64 g2] 23)
  replace hBL := ext_alloc (ext_step hBL h) (.cells #[.int .i64 g1, .int .i64 g2] 23); clear h
  have hW := At2.new w4 (.int .i64 g1) (.int .i64 g2) 23
  generalize hgW : w4.heap.size = gW at hW
  obtain ⟨a0, a1, -, -⟩ := id hA
  go_wp2_with fail
  generalize w4.alloc (.cells #[.int .i64 g1, .int .i64 g2] 23) = W4 at *
  refine (CF.out a b W4).mono ?_; rintro e w5 ⟨rfl, h⟩
  clear a0 a1
  replace hA := hA.below h
  replace hO := hO.below h
  replace hN := hN.below h
  replace hS := hS.below h
  replace hW := hW.below h
  replace hBL := ext_step hBL h; clear h
  go_wp2_with fail
  refine (CP.out w5).mono ?_; rintro e w6 ⟨rfl, h⟩
  replace hA := (hA.below h).alloc (.cells #[.int .i64 s1, .int .i64 s2] 31)
  replace hO := (hO.below h).alloc (.cells #[.int .i64 s1, .int .i64 s2] 31)
  replace hN := (hN.below h).alloc (.cells #[.int .i64 s1, .int .i64 s2] 31)
  replace hS := (hS.below h).alloc (.cells #[.int .i64 s1, .int .i64 s2] 31)
  replace hW := (hW.below h).alloc (.cells #[.int .i64 s1, .int .i64 s2] 31)
  replace hBL := ext_alloc (ext_step hBL h) (.cells #[.int .i64 s1, .int .i64 s2] 31); clear h
  have hP := At2.new w6 (.int .i64 s1) (.int .i64 s2) 31
  generalize hgP : w6.heap.size = gP at hP
  obtain ⟨a0, a1, -, -⟩ := id hA
  go_wp2_with fail
  generalize w6.alloc (.cells #[.int .i64 s1, .int .i64 s2] 31) = W6 at *
  refine (CF.out a b W6).mono ?_; rintro e w7 ⟨rfl, h⟩
  clear a0 a1
  replace hA := hA.below h
  replace hO := hO.below h
  replace hN := hN.below h
  replace hS := hS.below h
  replace hW := hW.below h
  replace hP := hP.below h
  replace hBL := ext_step hBL h; clear h
  go_wp2_with fail
  refine (CQ.out w7).mono ?_; rintro e w8 ⟨rfl, h⟩
  replace hA := (hA.below h).alloc (.cells #[.int .i64 g1, .int .i64 g2] 31)
  replace hO := (hO.below h).alloc (.cells #[.int .i64 g1, .int .i64 g2] 31)
  replace hN := (hN.below h).alloc (.cells #[.int .i64 g1, .int .i64 g2] 31)
  replace hS := (hS.below h).alloc (.cells #[.int .i64 g1, .int .i64 g2] 31)
  replace hW := (hW.below h).alloc (.cells #[.int .i64 g1, .int .i64 g2] 31)
  replace hP := (hP.below h).alloc (.cells #[.int .i64 g1, .int .i64 g2] 31)
  replace hBL := ext_alloc (ext_step hBL h) (.cells #[.int .i64 g1, .int .i64 g2] 31); clear h
  have hQ := At2.new w8 (.int .i64 g1) (.int .i64 g2) 31
  generalize hgQ : w8.heap.size = gQ at hQ
  obtain ⟨a0, a1, -, -⟩ := id hA
  go_upto_region 9 with fail
  clear a0 a1
  change Code.wp _ _ _ _ (w8.alloc (.cells #[.int .i64 g1, .int .i64 g2] 31))
  generalize w8.alloc (.cells #[.int .i64 g1, .int .i64 g2] 31) = W8 at *
  go_region_held3 (fun w' => w'.cell? ⟨w.heap.size, 0, none⟩ = some (.int .i64 a) ∧ w'.cell? ⟨w.heap.size, 1, none⟩ = some (.int .i64 b) ∧ w'.cell? ⟨(w.heap.size + 1), 0, none⟩ = some (.int .i64 c) ∧ w'.cell? ⟨(w.heap.size + 1), 1, none⟩ = some (.int .i64 d) ∧ w'.cell? ⟨gN, 0, none⟩ = some (.int .i64 a) ∧ w'.cell? ⟨gN, 1, none⟩ = some (.int .i64 b) ∧ w'.cell? ⟨gS, 0, none⟩ = some (.int .i64 s1) ∧ w'.cell? ⟨gS, 1, none⟩ = some (.int .i64 s2) ∧ w'.cell? ⟨gW, 0, none⟩ = some (.int .i64 g1) ∧ w'.cell? ⟨gW, 1, none⟩ = some (.int .i64 g2) ∧ w'.cell? ⟨gP, 0, none⟩ = some (.int .i64 s1) ∧ w'.cell? ⟨gP, 1, none⟩ = some (.int .i64 s2) ∧ w'.cell? ⟨gQ, 0, none⟩ = some (.int .i64 g1) ∧ w'.cell? ⟨gQ, 1, none⟩ = some (.int .i64 g2)) (exact ⟨hA.c0, hA.c1, hO.c0, hO.c1, hN.c0, hN.c1, hS.c0, hS.c1, hW.c0, hW.c1, hP.c0, hP.c1, hQ.c0, hQ.c1⟩)
    (first
      | (go_at_call 14; refine (CR.out _).mono ?_; rintro e v0 ⟨rfl, hq⟩; have hA := hA.below ⟨hq.os, hq.tape, hq.output, hq.size, hq.block⟩; have hO := hO.below ⟨hq.os, hq.tape, hq.output, hq.size, hq.block⟩; have hN := hN.below ⟨hq.os, hq.tape, hq.output, hq.size, hq.block⟩; have hS := hS.below ⟨hq.os, hq.tape, hq.output, hq.size, hq.block⟩; have hW := hW.below ⟨hq.os, hq.tape, hq.output, hq.size, hq.block⟩; have hP := hP.below ⟨hq.os, hq.tape, hq.output, hq.size, hq.block⟩; have hQ := hQ.below ⟨hq.os, hq.tape, hq.output, hq.size, hq.block⟩; have hBL := ext_step hBL ⟨hq.os, hq.tape, hq.output, hq.size, hq.block⟩; clear hq)
      | (go_at_call_of 12 s1; refine (CF.out s1 s2 _).mono ?_; rintro e v1 ⟨rfl, hq⟩; have hA := hA.below ⟨hq.os, hq.tape, hq.output, hq.size, hq.block⟩; have hO := hO.below ⟨hq.os, hq.tape, hq.output, hq.size, hq.block⟩; have hN := hN.below ⟨hq.os, hq.tape, hq.output, hq.size, hq.block⟩; have hS := hS.below ⟨hq.os, hq.tape, hq.output, hq.size, hq.block⟩; have hW := hW.below ⟨hq.os, hq.tape, hq.output, hq.size, hq.block⟩; have hP := hP.below ⟨hq.os, hq.tape, hq.output, hq.size, hq.block⟩; have hQ := hQ.below ⟨hq.os, hq.tape, hq.output, hq.size, hq.block⟩; have hBL := ext_step hBL ⟨hq.os, hq.tape, hq.output, hq.size, hq.block⟩; clear hq)
      | (go_at_call_of 12 g1; refine (CF.out g1 g2 _).mono ?_; rintro e v2 ⟨rfl, hq⟩; have hA := hA.below ⟨hq.os, hq.tape, hq.output, hq.size, hq.block⟩; have hO := hO.below ⟨hq.os, hq.tape, hq.output, hq.size, hq.block⟩; have hN := hN.below ⟨hq.os, hq.tape, hq.output, hq.size, hq.block⟩; have hS := hS.below ⟨hq.os, hq.tape, hq.output, hq.size, hq.block⟩; have hW := hW.below ⟨hq.os, hq.tape, hq.output, hq.size, hq.block⟩; have hP := hP.below ⟨hq.os, hq.tape, hq.output, hq.size, hq.block⟩; have hQ := hQ.below ⟨hq.os, hq.tape, hq.output, hq.size, hq.block⟩; have hBL := ext_step hBL ⟨hq.os, hq.tape, hq.output, hq.size, hq.block⟩; clear hq)
      | (go_at_call 15; refine (CM.out _).mono ?_; rintro e v3 ⟨rfl, hq⟩; have hA := hA.below ⟨hq.os, hq.tape, hq.output, hq.size, hq.block⟩; have hO := hO.below ⟨hq.os, hq.tape, hq.output, hq.size, hq.block⟩; have hN := hN.below ⟨hq.os, hq.tape, hq.output, hq.size, hq.block⟩; have hS := hS.below ⟨hq.os, hq.tape, hq.output, hq.size, hq.block⟩; have hW := hW.below ⟨hq.os, hq.tape, hq.output, hq.size, hq.block⟩; have hP := hP.below ⟨hq.os, hq.tape, hq.output, hq.size, hq.block⟩; have hQ := hQ.below ⟨hq.os, hq.tape, hq.output, hq.size, hq.block⟩; have hBL := ext_step hBL ⟨hq.os, hq.tape, hq.output, hq.size, hq.block⟩; clear hq)
      | (go_at_call_of 12 a; refine (CF.out a b _).mono ?_; rintro e v4 ⟨rfl, hq⟩; have hA := hA.below ⟨hq.os, hq.tape, hq.output, hq.size, hq.block⟩; have hO := hO.below ⟨hq.os, hq.tape, hq.output, hq.size, hq.block⟩; have hN := hN.below ⟨hq.os, hq.tape, hq.output, hq.size, hq.block⟩; have hS := hS.below ⟨hq.os, hq.tape, hq.output, hq.size, hq.block⟩; have hW := hW.below ⟨hq.os, hq.tape, hq.output, hq.size, hq.block⟩; have hP := hP.below ⟨hq.os, hq.tape, hq.output, hq.size, hq.block⟩; have hQ := hQ.below ⟨hq.os, hq.tape, hq.output, hq.size, hq.block⟩; have hBL := ext_step hBL ⟨hq.os, hq.tape, hq.output, hq.size, hq.block⟩; clear hq)
      | (go_at_call 16; refine (CK.out _).mono ?_; rintro e v5 ⟨rfl, hq⟩; have hA := hA.below ⟨hq.os, hq.tape, hq.output, hq.size, hq.block⟩; have hO := hO.below ⟨hq.os, hq.tape, hq.output, hq.size, hq.block⟩; have hN := hN.below ⟨hq.os, hq.tape, hq.output, hq.size, hq.block⟩; have hS := hS.below ⟨hq.os, hq.tape, hq.output, hq.size, hq.block⟩; have hW := hW.below ⟨hq.os, hq.tape, hq.output, hq.size, hq.block⟩; have hP := hP.below ⟨hq.os, hq.tape, hq.output, hq.size, hq.block⟩; have hQ := hQ.below ⟨hq.os, hq.tape, hq.output, hq.size, hq.block⟩; have hBL := ext_step hBL ⟨hq.os, hq.tape, hq.output, hq.size, hq.block⟩; clear hq))
  have HZ := Lib.hid (width_wrap1 HFA.out HFB.out HRR.out)
  obtain ⟨ib, eb⟩ : ∃ ib, decide (b ≤ d) = ib := ⟨_, rfl⟩
  obtain ⟨kb, kb1⟩ : ∃ kb, decide (x ≤ b) = kb := ⟨_, rfl⟩
  by_cases h1 : c ≤ a
  · have k1 := HKX.out
    have HCH : Hid (decide (a ≤ x ∧ x ≤ b) = false) := Lib.hid (decide_eq_false (by omega))
    have f0 : decide (x ≥ a) = false := decide_eq_false (by omega)
    have HCI : Hid (decide (a ≤ b ∧ c ≤ a ∧ b ≤ d) = ib) := Lib.hid ((decide_eq_decide.2 ⟨fun h => h.2.2, fun h => ⟨HRR.out, h1, h⟩⟩).trans eb)
    have e0 : decide (c ≤ a) = true := decide_eq_true h1
    have e1 : decide (a ≤ x) = false := f0
    obtain ⟨a0, a1, -, -⟩ := id hA
    obtain ⟨o0, o1, -, -⟩ := id hO
    clear h1 k1
    go_upto_region 14 with fail
    rw [HCH.out] at CH
    rw [HCI.out] at CI
    rw [if_pos HRR.out] at CW
    clear a0 a1 o0 o1 HCH HCI
    refine wp_region_held_drew (S := fun w' => w'.cell? ⟨w.heap.size, 0, none⟩ = some (.int .i64 a) ∧ w'.cell? ⟨w.heap.size, 1, none⟩ = some (.int .i64 b) ∧ w'.cell? ⟨(w.heap.size + 1), 0, none⟩ = some (.int .i64 c) ∧ w'.cell? ⟨(w.heap.size + 1), 1, none⟩ = some (.int .i64 d) ∧ w'.cell? ⟨gN, 0, none⟩ = some (.int .i64 a) ∧ w'.cell? ⟨gN, 1, none⟩ = some (.int .i64 b) ∧ w'.cell? ⟨gS, 0, none⟩ = some (.int .i64 s1) ∧ w'.cell? ⟨gS, 1, none⟩ = some (.int .i64 s2) ∧ w'.cell? ⟨gW, 0, none⟩ = some (.int .i64 g1) ∧ w'.cell? ⟨gW, 1, none⟩ = some (.int .i64 g2) ∧ w'.cell? ⟨gP, 0, none⟩ = some (.int .i64 s1) ∧ w'.cell? ⟨gP, 1, none⟩ = some (.int .i64 s2) ∧ w'.cell? ⟨gQ, 0, none⟩ = some (.int .i64 g1) ∧ w'.cell? ⟨gQ, 1, none⟩ = some (.int .i64 g2)) (by kernel_rfl) ?_ (fun hHeld => ?_)
    · exact ⟨hA.c0, hA.c1, hO.c0, hO.c1, hN.c0, hN.c1, hS.c0, hS.c1, hW.c0, hW.c1, hP.c0, hP.c1, hQ.c0, hQ.c1⟩
    refine take_at (i := 0) (d := some 143) (v := ?_) rfl rfl (by kernel_rfl) (by kernel_rfl) (by kernel_rfl) (fun _ _ _ h => h) (Or.inl ⟨by rfl, ?hya0⟩) (by assumption) ?resta0
    case hya0 => (intro w hSw; (try dsimp only at hSw); go_simp; try with_reducible rfl)
    simp only [Act.put, List.setIfInBounds_toArray, List.set_cons_zero, List.set_cons_succ]
    refine take_at (i := 1) (d := some 144) (v := ?_) rfl rfl (by kernel_rfl) (by kernel_rfl) (by kernel_rfl) (fun _ _ _ h => h) (Or.inl ⟨by rfl, ?hya1⟩) (by assumption) ?resta1
    case hya1 => (intro w hSw; (try dsimp only at hSw); go_simp; try with_reducible rfl)
    simp only [Act.put, List.setIfInBounds_toArray, List.set_cons_zero, List.set_cons_succ]
    refine take_at (i := 2) (d := some 145) (v := ?_) rfl rfl (by kernel_rfl) (by kernel_rfl) (by kernel_rfl) (fun _ _ _ h => h) (Or.inl ⟨by rfl, ?hya2⟩) (by assumption) ?resta2
    case hya2 => (intro w hSw; (try dsimp only at hSw); go_simp; try with_reducible rfl)
    simp only [Act.put, List.setIfInBounds_toArray, List.set_cons_zero, List.set_cons_succ]
    refine take_at (i := 3) (d := some 146) (v := ?_) rfl rfl (by kernel_rfl) (by kernel_rfl) (by kernel_rfl) (fun _ _ _ h => h) (Or.inl ⟨by rfl, ?hya3⟩) (by assumption) ?resta3
    case hya3 => (intro w hSw; (try dsimp only at hSw); go_simp; try with_reducible rfl)
    simp only [Act.put, List.setIfInBounds_toArray, List.set_cons_zero, List.set_cons_succ]
    refine take_at (i := 4) (d := some 147) (v := ?_) rfl rfl (by kernel_rfl) (by kernel_rfl) (by kernel_rfl) (fun _ _ _ h => h) (Or.inl ⟨by rfl, ?hya4⟩) (by assumption) ?resta4
    case hya4 => (intro w hSw; (try dsimp only at hSw); go_simp; try with_reducible rfl)
    simp only [Act.put, List.setIfInBounds_toArray, List.set_cons_zero, List.set_cons_succ]
    refine take_at (i := 5) (d := some 148) (v := ?_) rfl rfl (by kernel_rfl) (by kernel_rfl) (by kernel_rfl) (fun _ _ _ h => h) (Or.inl ⟨by rfl, ?hya5⟩) (by assumption) ?resta5
    case hya5 => (intro w hSw; (try dsimp only at hSw); go_simp; try with_reducible rfl)
    simp only [Act.put, List.setIfInBounds_toArray, List.set_cons_zero, List.set_cons_succ]
    refine take_at (i := 7) (d := some 150) (v := ?_) rfl rfl (by kernel_rfl) (by kernel_rfl) (by kernel_rfl) (fun _ _ _ h => h) (Or.inl ⟨by rfl, ?hya7⟩) (by assumption) ?resta7
    case hya7 => (intro w hSw; (try dsimp only at hSw); go_simp; try with_reducible rfl)
    simp only [Act.put, List.setIfInBounds_toArray, List.set_cons_zero, List.set_cons_succ]
    refine take_at (i := 8) (d := some 151) (v := ?_) rfl rfl (by kernel_rfl) (by kernel_rfl) (by kernel_rfl) (fun _ _ _ h => h) (Or.inl ⟨by rfl, ?hya8⟩) (by assumption) ?resta8
    case hya8 => (intro w hSw; (try dsimp only at hSw); go_simp; try with_reducible rfl)
    simp only [Act.put, List.setIfInBounds_toArray, List.set_cons_zero, List.set_cons_succ]
    refine take_at (i := 9) (d := some 152) (v := ?_) rfl rfl (by kernel_rfl) (by kernel_rfl) (by kernel_rfl) (fun _ _ _ h => h) (Or.inl ⟨by rfl, ?hya9⟩) (by assumption) ?resta9
    case hya9 => (intro w hSw; (try dsimp only at hSw); go_simp; try with_reducible rfl)
    simp only [Act.put, List.setIfInBounds_toArray, List.set_cons_zero, List.set_cons_succ]
    refine take_at (i := 10) (d := some 153) (v := ?_) rfl rfl (by kernel_rfl) (by kernel_rfl) (by kernel_rfl) (fun _ _ _ h => h) (Or.inl ⟨by rfl, ?hya10⟩) (by assumption) ?resta10
    case hya10 => (intro w hSw; (try dsimp only at hSw); go_simp; try with_reducible rfl)
    simp only [Act.put, List.setIfInBounds_toArray, List.set_cons_zero, List.set_cons_succ]
    refine wpAnyH_ready (rs := [6]) (by kernel_rfl) (by simp) ?_
    refine AllReadyH.cons rfl (fun K hK => ?_) AllReadyH.nil
    go_simp
    go_at_call 17; refine (CH.out _).mono ?_; rintro e v6 ⟨rfl, hq⟩; have hA := hA.below ⟨hq.os, hq.tape, hq.output, hq.size, hq.block⟩; have hO := hO.below ⟨hq.os, hq.tape, hq.output, hq.size, hq.block⟩; have hN := hN.below ⟨hq.os, hq.tape, hq.output, hq.size, hq.block⟩; have hS := hS.below ⟨hq.os, hq.tape, hq.output, hq.size, hq.block⟩; have hW := hW.below ⟨hq.os, hq.tape, hq.output, hq.size, hq.block⟩; have hP := hP.below ⟨hq.os, hq.tape, hq.output, hq.size, hq.block⟩; have hQ := hQ.below ⟨hq.os, hq.tape, hq.output, hq.size, hq.block⟩; have hBL := ext_step hBL ⟨hq.os, hq.tape, hq.output, hq.size, hq.block⟩; clear hq
    try go_wp2_with fail
    refine hK.out _ _ ?_ (fun hHeld => ?_)
    · exact ⟨hA.c0, hA.c1, hO.c0, hO.c1, hN.c0, hN.c1, hS.c0, hS.c1, hW.c0, hW.c1, hP.c0, hP.c1, hQ.c0, hQ.c1⟩
    clear hK K
    refine take_at (i := 11) (d := some 154) (v := ?_) rfl rfl (by kernel_rfl) (by kernel_rfl) (by kernel_rfl) (fun _ _ _ h => h) (Or.inl ⟨by rfl, ?hya11⟩) (by assumption) ?resta11
    case hya11 => (intro w hSw; (try dsimp only at hSw); go_simp; try with_reducible rfl)
    simp only [Act.put, List.setIfInBounds_toArray, List.set_cons_zero, List.set_cons_succ]
    refine take_at (i := 12) (d := some 155) (v := undef) rfl rfl (by kernel_rfl) (by kernel_rfl) (by kernel_rfl) (fun _ _ _ h => h) (Or.inr ⟨by rfl, rfl⟩) (by assumption) ?_
    simp only [Act.put, List.setIfInBounds_toArray, List.set_cons_zero, List.set_cons_succ]
    refine take_at (i := 13) (d := some 156) (v := undef) rfl rfl (by kernel_rfl) (by kernel_rfl) (by kernel_rfl) (fun _ _ _ h => h) (Or.inr ⟨by rfl, rfl⟩) (by assumption) ?_
    simp only [Act.put, List.setIfInBounds_toArray, List.set_cons_zero, List.set_cons_succ]
    refine take_at (i := 14) (d := some 157) (v := undef) rfl rfl (by kernel_rfl) (by kernel_rfl) (by kernel_rfl) (fun _ _ _ h => h) (Or.inr ⟨by rfl, rfl⟩) (by assumption) ?_
    simp only [Act.put, List.setIfInBounds_toArray, List.set_cons_zero, List.set_cons_succ]
    refine take_at (i := 15) (d := some 158) (v := undef) rfl rfl (by kernel_rfl) (by kernel_rfl) (by kernel_rfl) (fun _ _ _ h => h) (Or.inr ⟨by rfl, rfl⟩) (by assumption) ?_
    simp only [Act.put, List.setIfInBounds_toArray, List.set_cons_zero, List.set_cons_succ]
    refine take_at (i := 16) (d := some 159) (v := ?_) rfl rfl (by kernel_rfl) (by kernel_rfl) (by kernel_rfl) (fun _ _ _ h => h) (Or.inl ⟨by rfl, ?hya16⟩) (by assumption) ?resta16
    case hya16 => (intro w hSw; (try dsimp only at hSw); go_simp; try with_reducible rfl)
    simp only [Act.put, List.setIfInBounds_toArray, List.set_cons_zero, List.set_cons_succ]
    refine take_at (i := 17) (d := some 160) (v := ?_) rfl rfl (by kernel_rfl) (by kernel_rfl) (by kernel_rfl) (fun _ _ _ h => h) (Or.inl ⟨by rfl, ?hya17⟩) (by assumption) ?resta17
    case hya17 => (intro w hSw; (try dsimp only at hSw); go_simp; try with_reducible rfl)
    simp only [Act.put, List.setIfInBounds_toArray, List.set_cons_zero, List.set_cons_succ]
    refine take_at (i := 18) (d := some 161) (v := ?_) rfl rfl (by kernel_rfl) (by kernel_rfl) (by kernel_rfl) (fun _ _ _ h => h) (Or.inl ⟨by rfl, ?hya18⟩) (by assumption) ?resta18
    case hya18 => (intro w hSw; (try dsimp only at hSw); go_simp; try with_reducible rfl)
    simp only [Act.put, List.setIfInBounds_toArray, List.set_cons_zero, List.set_cons_succ]
    refine take_at (i := 19) (d := some 162) (v := ?_) rfl rfl (by kernel_rfl) (by kernel_rfl) (by kernel_rfl) (fun _ _ _ h => h) (Or.inl ⟨by rfl, ?hya19⟩) (by assumption) ?resta19
    case hya19 => (intro w hSw; (try dsimp only at hSw); go_simp; try with_reducible rfl)
    simp only [Act.put, List.setIfInBounds_toArray, List.set_cons_zero, List.set_cons_succ]
    refine take_at (i := 20) (d := some 163) (v := ?_) rfl rfl (by kernel_rfl) (by kernel_rfl) (by kernel_rfl) (fun _ _ _ h => h) (Or.inl ⟨by rfl, ?hya20⟩) (by assumption) ?resta20
    case hya20 => (intro w hSw; (try dsimp only at hSw); go_simp; try with_reducible rfl)
    simp only [Act.put, List.setIfInBounds_toArray, List.set_cons_zero, List.set_cons_succ]
    refine take_at (i := 21) (d := some 164) (v := ?_) rfl rfl (by kernel_rfl) (by kernel_rfl) (by kernel_rfl) (fun _ _ _ h => h) (Or.inl ⟨by rfl, ?hya21⟩) (by assumption) ?resta21
    case hya21 => (intro w hSw; (try dsimp only at hSw); go_simp; try with_reducible rfl)
    simp only [Act.put, List.setIfInBounds_toArray, List.set_cons_zero, List.set_cons_succ]
    refine take_at (i := 23) (d := some 166) (v := ?_) rfl rfl (by kernel_rfl) (by kernel_rfl) (by kernel_rfl) (fun _ _ _ h => h) (Or.inl ⟨by rfl, ?hya23⟩) (by assumption) ?resta23
    case hya23 => (intro w hSw; (try dsimp only at hSw); go_simp; try with_reducible rfl)
    simp only [Act.put, List.setIfInBounds_toArray, List.set_cons_zero, List.set_cons_succ]
    refine wpAnyH_ready (rs := [22]) (by kernel_rfl) (by simp) ?_
    refine AllReadyH.cons rfl (fun K hK => ?_) AllReadyH.nil
    go_simp
    go_at_call 18; refine (CI.out _).mono ?_; rintro e v22 ⟨rfl, hq⟩; have hA := hA.below ⟨hq.os, hq.tape, hq.output, hq.size, hq.block⟩; have hO := hO.below ⟨hq.os, hq.tape, hq.output, hq.size, hq.block⟩; have hN := hN.below ⟨hq.os, hq.tape, hq.output, hq.size, hq.block⟩; have hS := hS.below ⟨hq.os, hq.tape, hq.output, hq.size, hq.block⟩; have hW := hW.below ⟨hq.os, hq.tape, hq.output, hq.size, hq.block⟩; have hP := hP.below ⟨hq.os, hq.tape, hq.output, hq.size, hq.block⟩; have hQ := hQ.below ⟨hq.os, hq.tape, hq.output, hq.size, hq.block⟩; have hBL := ext_step hBL ⟨hq.os, hq.tape, hq.output, hq.size, hq.block⟩; clear hq
    try go_wp2_with fail
    refine hK.out _ _ ?_ (fun hHeld => ?_)
    · exact ⟨hA.c0, hA.c1, hO.c0, hO.c1, hN.c0, hN.c1, hS.c0, hS.c1, hW.c0, hW.c1, hP.c0, hP.c1, hQ.c0, hQ.c1⟩
    clear hK K
    refine take_at (i := 24) (d := some 167) (v := ?_) rfl rfl (by kernel_rfl) (by kernel_rfl) (by kernel_rfl) (fun _ _ _ h => h) (Or.inl ⟨by rfl, ?hya24⟩) (by assumption) ?resta24
    case hya24 => (intro w hSw; (try dsimp only at hSw); go_simp; try with_reducible rfl)
    simp only [Act.put, List.setIfInBounds_toArray, List.set_cons_zero, List.set_cons_succ]
    refine take_at (i := 25) (d := some 168) (v := ?_) rfl rfl (by kernel_rfl) (by kernel_rfl) (by kernel_rfl) (fun _ _ _ h => h) (Or.inl ⟨by rfl, ?hya25⟩) (by assumption) ?resta25
    case hya25 => (intro w hSw; (try dsimp only at hSw); go_simp; try with_reducible rfl)
    simp only [Act.put, List.setIfInBounds_toArray, List.set_cons_zero, List.set_cons_succ]
    refine take_at (i := 26) (d := some 169) (v := ?_) rfl rfl (by kernel_rfl) (by kernel_rfl) (by kernel_rfl) (fun _ _ _ h => h) (Or.inl ⟨by rfl, ?hya26⟩) (by assumption) ?resta26
    case hya26 => (intro w hSw; (try dsimp only at hSw); go_simp; try with_reducible rfl)
    simp only [Act.put, List.setIfInBounds_toArray, List.set_cons_zero, List.set_cons_succ]
    refine take_at (i := 27) (d := some 170) (v := ?_) rfl rfl (by kernel_rfl) (by kernel_rfl) (by kernel_rfl) (fun _ _ _ h => h) (Or.inl ⟨by rfl, ?hya27⟩) (by assumption) ?resta27
    case hya27 => (intro w hSw; (try dsimp only at hSw); go_simp; try with_reducible rfl)
    simp only [Act.put, List.setIfInBounds_toArray, List.set_cons_zero, List.set_cons_succ]
    refine take_at (i := 29) (d := some 172) (v := ?_) rfl rfl (by kernel_rfl) (by kernel_rfl) (by kernel_rfl) (fun _ _ _ h => h) (Or.inl ⟨by rfl, ?hya29⟩) (by assumption) ?resta29
    case hya29 => (intro w hSw; (try dsimp only at hSw); go_simp; try with_reducible rfl)
    simp only [Act.put, List.setIfInBounds_toArray, List.set_cons_zero, List.set_cons_succ]
    refine take_at (i := 30) (d := some 173) (v := ?_) rfl rfl (by kernel_rfl) (by kernel_rfl) (by kernel_rfl) (fun _ _ _ h => h) (Or.inl ⟨by rfl, ?hya30⟩) (by assumption) ?resta30
    case hya30 => (intro w hSw; (try dsimp only at hSw); go_simp; try with_reducible rfl)
    simp only [Act.put, List.setIfInBounds_toArray, List.set_cons_zero, List.set_cons_succ]
    refine take_at (i := 31) (d := some 174) (v := ?_) rfl rfl (by kernel_rfl) (by kernel_rfl) (by kernel_rfl) (fun _ _ _ h => h) (Or.inl ⟨by rfl, ?hya31⟩) (by assumption) ?resta31
    case hya31 => (intro w hSw; (try dsimp only at hSw); go_simp; try with_reducible rfl)
    simp only [Act.put, List.setIfInBounds_toArray, List.set_cons_zero, List.set_cons_succ]
    refine take_at (i := 32) (d := some 175) (v := ?_) rfl rfl (by kernel_rfl) (by kernel_rfl) (by kernel_rfl) (fun _ _ _ h => h) (Or.inl ⟨by rfl, ?hya32⟩) (by assumption) ?resta32
    case hya32 => (intro w hSw; (try dsimp only at hSw); go_simp; try with_reducible rfl)
    simp only [Act.put, List.setIfInBounds_toArray, List.set_cons_zero, List.set_cons_succ]
    refine take_at (i := 33) (d := some 176) (v := ?_) rfl rfl (by kernel_rfl) (by kernel_rfl) (by kernel_rfl) (fun _ _ _ h => h) (Or.inl ⟨by rfl, ?hya33⟩) (by assumption) ?resta33
    case hya33 => (intro w hSw; (try dsimp only at hSw); go_simp; try with_reducible rfl)
    simp only [Act.put, List.setIfInBounds_toArray, List.set_cons_zero, List.set_cons_succ]
    refine take_at (i := 34) (d := some 177) (v := ?_) rfl rfl (by kernel_rfl) (by kernel_rfl) (by kernel_rfl) (fun _ _ _ h => h) (Or.inl ⟨by rfl, ?hya34⟩) (by assumption) ?resta34
    case hya34 => (intro w hSw; (try dsimp only at hSw); go_simp; try with_reducible rfl)
    simp only [Act.put, List.setIfInBounds_toArray, List.set_cons_zero, List.set_cons_succ]
    refine take_at (i := 35) (d := some 178) (v := ?_) rfl rfl (by kernel_rfl) (by kernel_rfl) (by kernel_rfl) (fun _ _ _ h => h) (Or.inl ⟨by rfl, ?hya35⟩) (by assumption) ?resta35
    case hya35 => (intro w hSw; (try dsimp only at hSw); go_simp; try with_reducible rfl)
    simp only [Act.put, List.setIfInBounds_toArray, List.set_cons_zero, List.set_cons_succ]
    refine wpAnyH_ready (rs := [28]) (by kernel_rfl) (by simp) ?_
    refine AllReadyH.cons rfl (fun K hK => ?_) AllReadyH.nil
    go_simp
    go_at_call 19; refine (CW.out _).mono ?_; rintro e v28 ⟨rfl, hq⟩; have hA := hA.below ⟨hq.os, hq.tape, hq.output, hq.size, hq.block⟩; have hO := hO.below ⟨hq.os, hq.tape, hq.output, hq.size, hq.block⟩; have hN := hN.below ⟨hq.os, hq.tape, hq.output, hq.size, hq.block⟩; have hS := hS.below ⟨hq.os, hq.tape, hq.output, hq.size, hq.block⟩; have hW := hW.below ⟨hq.os, hq.tape, hq.output, hq.size, hq.block⟩; have hP := hP.below ⟨hq.os, hq.tape, hq.output, hq.size, hq.block⟩; have hQ := hQ.below ⟨hq.os, hq.tape, hq.output, hq.size, hq.block⟩; have hBL := ext_step hBL ⟨hq.os, hq.tape, hq.output, hq.size, hq.block⟩; clear hq
    try go_wp2_with fail
    refine hK.out _ _ ?_ (fun hHeld => ?_)
    · exact ⟨hA.c0, hA.c1, hO.c0, hO.c1, hN.c0, hN.c1, hS.c0, hS.c1, hW.c0, hW.c1, hP.c0, hP.c1, hQ.c0, hQ.c1⟩
    clear hK K
    refine take_at (i := 36) (d := some 179) (v := ?_) rfl rfl (by kernel_rfl) (by kernel_rfl) (by kernel_rfl) (fun _ _ _ h => h) (Or.inl ⟨by rfl, ?hya36⟩) (by assumption) ?resta36
    case hya36 => (intro w hSw; (try dsimp only at hSw); go_simp; try with_reducible rfl)
    simp only [Act.put, List.setIfInBounds_toArray, List.set_cons_zero, List.set_cons_succ]
    refine take_at (i := 37) (d := some 180) (v := ?_) rfl rfl (by kernel_rfl) (by kernel_rfl) (by kernel_rfl) (fun _ _ _ h => h) (Or.inl ⟨by rfl, ?hya37⟩) (by assumption) ?resta37
    case hya37 => (intro w hSw; (try dsimp only at hSw); go_simp; try with_reducible rfl)
    simp only [Act.put, List.setIfInBounds_toArray, List.set_cons_zero, List.set_cons_succ]
    refine take_at (i := 38) (d := some 8) (v := ?_) rfl rfl (by kernel_rfl) (by kernel_rfl) (by kernel_rfl) (fun _ _ _ h => h) (Or.inl ⟨by rfl, ?hya38⟩) (by assumption) ?resta38
    case hya38 => (intro w hSw; (try dsimp only at hSw); go_simp; try with_reducible rfl)
    simp only [Act.put, List.setIfInBounds_toArray, List.set_cons_zero, List.set_cons_succ]
    refine wpAnyH_done (by kernel_rfl) ?_ _
    all_goals
      go_wp2_with fail
      go_ret
      exact ⟨ret_bool HZ.out, hBL⟩
  · have k1 := HKX.out
    have HCH : Hid (decide (a ≤ x ∧ x ≤ b) = false) := Lib.hid (decide_eq_false (by omega))
    have f0 : decide (x ≥ a) = false := decide_eq_false (by omega)
    have HCI : Hid (decide (a ≤ b ∧ c ≤ a ∧ b ≤ d) = false) := Lib.hid (decide_eq_false fun h => h1 h.2.1)
    have e0 : decide (c ≤ a) = false := decide_eq_false h1
    have e1 : decide (a ≤ x) = false := f0
    obtain ⟨a0, a1, -, -⟩ := id hA
    obtain ⟨o0, o1, -, -⟩ := id hO
    clear h1 k1
    go_upto_region 14 with fail
    rw [HCH.out] at CH
    rw [HCI.out] at CI
    rw [if_pos HRR.out] at CW
    clear a0 a1 o0 o1 HCH HCI
    refine wp_region_held_drew (S := fun w' => w'.cell? ⟨w.heap.size, 0, none⟩ = some (.int .i64 a) ∧ w'.cell? ⟨w.heap.size, 1, none⟩ = some (.int .i64 b) ∧ w'.cell? ⟨(w.heap.size + 1), 0, none⟩ = some (.int .i64 c) ∧ w'.cell? ⟨(w.heap.size + 1), 1, none⟩ = some (.int .i64 d) ∧ w'.cell? ⟨gN, 0, none⟩ = some (.int .i64 a) ∧ w'.cell? ⟨gN, 1, none⟩ = some (.int .i64 b) ∧ w'.cell? ⟨gS, 0, none⟩ = some (.int .i64 s1) ∧ w'.cell? ⟨gS, 1, none⟩ = some (.int .i64 s2) ∧ w'.cell? ⟨gW, 0, none⟩ = some (.int .i64 g1) ∧ w'.cell? ⟨gW, 1, none⟩ = some (.int .i64 g2) ∧ w'.cell? ⟨gP, 0, none⟩ = some (.int .i64 s1) ∧ w'.cell? ⟨gP, 1, none⟩ = some (.int .i64 s2) ∧ w'.cell? ⟨gQ, 0, none⟩ = some (.int .i64 g1) ∧ w'.cell? ⟨gQ, 1, none⟩ = some (.int .i64 g2)) (by kernel_rfl) ?_ (fun hHeld => ?_)
    · exact ⟨hA.c0, hA.c1, hO.c0, hO.c1, hN.c0, hN.c1, hS.c0, hS.c1, hW.c0, hW.c1, hP.c0, hP.c1, hQ.c0, hQ.c1⟩
    refine take_at (i := 0) (d := some 143) (v := ?_) rfl rfl (by kernel_rfl) (by kernel_rfl) (by kernel_rfl) (fun _ _ _ h => h) (Or.inl ⟨by rfl, ?hyb0⟩) (by assumption) ?restb0
    case hyb0 => (intro w hSw; (try dsimp only at hSw); go_simp; try with_reducible rfl)
    simp only [Act.put, List.setIfInBounds_toArray, List.set_cons_zero, List.set_cons_succ]
    refine take_at (i := 1) (d := some 144) (v := ?_) rfl rfl (by kernel_rfl) (by kernel_rfl) (by kernel_rfl) (fun _ _ _ h => h) (Or.inl ⟨by rfl, ?hyb1⟩) (by assumption) ?restb1
    case hyb1 => (intro w hSw; (try dsimp only at hSw); go_simp; try with_reducible rfl)
    simp only [Act.put, List.setIfInBounds_toArray, List.set_cons_zero, List.set_cons_succ]
    refine take_at (i := 2) (d := some 145) (v := ?_) rfl rfl (by kernel_rfl) (by kernel_rfl) (by kernel_rfl) (fun _ _ _ h => h) (Or.inl ⟨by rfl, ?hyb2⟩) (by assumption) ?restb2
    case hyb2 => (intro w hSw; (try dsimp only at hSw); go_simp; try with_reducible rfl)
    simp only [Act.put, List.setIfInBounds_toArray, List.set_cons_zero, List.set_cons_succ]
    refine take_at (i := 3) (d := some 146) (v := ?_) rfl rfl (by kernel_rfl) (by kernel_rfl) (by kernel_rfl) (fun _ _ _ h => h) (Or.inl ⟨by rfl, ?hyb3⟩) (by assumption) ?restb3
    case hyb3 => (intro w hSw; (try dsimp only at hSw); go_simp; try with_reducible rfl)
    simp only [Act.put, List.setIfInBounds_toArray, List.set_cons_zero, List.set_cons_succ]
    refine take_at (i := 4) (d := some 147) (v := ?_) rfl rfl (by kernel_rfl) (by kernel_rfl) (by kernel_rfl) (fun _ _ _ h => h) (Or.inl ⟨by rfl, ?hyb4⟩) (by assumption) ?restb4
    case hyb4 => (intro w hSw; (try dsimp only at hSw); go_simp; try with_reducible rfl)
    simp only [Act.put, List.setIfInBounds_toArray, List.set_cons_zero, List.set_cons_succ]
    refine take_at (i := 5) (d := some 148) (v := ?_) rfl rfl (by kernel_rfl) (by kernel_rfl) (by kernel_rfl) (fun _ _ _ h => h) (Or.inl ⟨by rfl, ?hyb5⟩) (by assumption) ?restb5
    case hyb5 => (intro w hSw; (try dsimp only at hSw); go_simp; try with_reducible rfl)
    simp only [Act.put, List.setIfInBounds_toArray, List.set_cons_zero, List.set_cons_succ]
    refine take_at (i := 7) (d := some 150) (v := ?_) rfl rfl (by kernel_rfl) (by kernel_rfl) (by kernel_rfl) (fun _ _ _ h => h) (Or.inl ⟨by rfl, ?hyb7⟩) (by assumption) ?restb7
    case hyb7 => (intro w hSw; (try dsimp only at hSw); go_simp; try with_reducible rfl)
    simp only [Act.put, List.setIfInBounds_toArray, List.set_cons_zero, List.set_cons_succ]
    refine take_at (i := 8) (d := some 151) (v := ?_) rfl rfl (by kernel_rfl) (by kernel_rfl) (by kernel_rfl) (fun _ _ _ h => h) (Or.inl ⟨by rfl, ?hyb8⟩) (by assumption) ?restb8
    case hyb8 => (intro w hSw; (try dsimp only at hSw); go_simp; try with_reducible rfl)
    simp only [Act.put, List.setIfInBounds_toArray, List.set_cons_zero, List.set_cons_succ]
    refine take_at (i := 9) (d := some 152) (v := ?_) rfl rfl (by kernel_rfl) (by kernel_rfl) (by kernel_rfl) (fun _ _ _ h => h) (Or.inl ⟨by rfl, ?hyb9⟩) (by assumption) ?restb9
    case hyb9 => (intro w hSw; (try dsimp only at hSw); go_simp; try with_reducible rfl)
    simp only [Act.put, List.setIfInBounds_toArray, List.set_cons_zero, List.set_cons_succ]
    refine take_at (i := 10) (d := some 153) (v := ?_) rfl rfl (by kernel_rfl) (by kernel_rfl) (by kernel_rfl) (fun _ _ _ h => h) (Or.inl ⟨by rfl, ?hyb10⟩) (by assumption) ?restb10
    case hyb10 => (intro w hSw; (try dsimp only at hSw); go_simp; try with_reducible rfl)
    simp only [Act.put, List.setIfInBounds_toArray, List.set_cons_zero, List.set_cons_succ]
    refine wpAnyH_ready (rs := [6]) (by kernel_rfl) (by simp) ?_
    refine AllReadyH.cons rfl (fun K hK => ?_) AllReadyH.nil
    go_simp
    go_at_call 17; refine (CH.out _).mono ?_; rintro e v6 ⟨rfl, hq⟩; have hA := hA.below ⟨hq.os, hq.tape, hq.output, hq.size, hq.block⟩; have hO := hO.below ⟨hq.os, hq.tape, hq.output, hq.size, hq.block⟩; have hN := hN.below ⟨hq.os, hq.tape, hq.output, hq.size, hq.block⟩; have hS := hS.below ⟨hq.os, hq.tape, hq.output, hq.size, hq.block⟩; have hW := hW.below ⟨hq.os, hq.tape, hq.output, hq.size, hq.block⟩; have hP := hP.below ⟨hq.os, hq.tape, hq.output, hq.size, hq.block⟩; have hQ := hQ.below ⟨hq.os, hq.tape, hq.output, hq.size, hq.block⟩; have hBL := ext_step hBL ⟨hq.os, hq.tape, hq.output, hq.size, hq.block⟩; clear hq
    try go_wp2_with fail
    refine hK.out _ _ ?_ (fun hHeld => ?_)
    · exact ⟨hA.c0, hA.c1, hO.c0, hO.c1, hN.c0, hN.c1, hS.c0, hS.c1, hW.c0, hW.c1, hP.c0, hP.c1, hQ.c0, hQ.c1⟩
    clear hK K
    refine take_at (i := 11) (d := some 154) (v := ?_) rfl rfl (by kernel_rfl) (by kernel_rfl) (by kernel_rfl) (fun _ _ _ h => h) (Or.inl ⟨by rfl, ?hyb11⟩) (by assumption) ?restb11
    case hyb11 => (intro w hSw; (try dsimp only at hSw); go_simp; try with_reducible rfl)
    simp only [Act.put, List.setIfInBounds_toArray, List.set_cons_zero, List.set_cons_succ]
    refine take_at (i := 12) (d := some 155) (v := undef) rfl rfl (by kernel_rfl) (by kernel_rfl) (by kernel_rfl) (fun _ _ _ h => h) (Or.inr ⟨by rfl, rfl⟩) (by assumption) ?_
    simp only [Act.put, List.setIfInBounds_toArray, List.set_cons_zero, List.set_cons_succ]
    refine take_at (i := 13) (d := some 156) (v := undef) rfl rfl (by kernel_rfl) (by kernel_rfl) (by kernel_rfl) (fun _ _ _ h => h) (Or.inr ⟨by rfl, rfl⟩) (by assumption) ?_
    simp only [Act.put, List.setIfInBounds_toArray, List.set_cons_zero, List.set_cons_succ]
    refine take_at (i := 14) (d := some 157) (v := undef) rfl rfl (by kernel_rfl) (by kernel_rfl) (by kernel_rfl) (fun _ _ _ h => h) (Or.inr ⟨by rfl, rfl⟩) (by assumption) ?_
    simp only [Act.put, List.setIfInBounds_toArray, List.set_cons_zero, List.set_cons_succ]
    refine take_at (i := 15) (d := some 158) (v := undef) rfl rfl (by kernel_rfl) (by kernel_rfl) (by kernel_rfl) (fun _ _ _ h => h) (Or.inr ⟨by rfl, rfl⟩) (by assumption) ?_
    simp only [Act.put, List.setIfInBounds_toArray, List.set_cons_zero, List.set_cons_succ]
    refine take_at (i := 16) (d := some 159) (v := ?_) rfl rfl (by kernel_rfl) (by kernel_rfl) (by kernel_rfl) (fun _ _ _ h => h) (Or.inl ⟨by rfl, ?hyb16⟩) (by assumption) ?restb16
    case hyb16 => (intro w hSw; (try dsimp only at hSw); go_simp; try with_reducible rfl)
    simp only [Act.put, List.setIfInBounds_toArray, List.set_cons_zero, List.set_cons_succ]
    refine take_at (i := 17) (d := some 160) (v := ?_) rfl rfl (by kernel_rfl) (by kernel_rfl) (by kernel_rfl) (fun _ _ _ h => h) (Or.inl ⟨by rfl, ?hyb17⟩) (by assumption) ?restb17
    case hyb17 => (intro w hSw; (try dsimp only at hSw); go_simp; try with_reducible rfl)
    simp only [Act.put, List.setIfInBounds_toArray, List.set_cons_zero, List.set_cons_succ]
    refine take_at (i := 18) (d := some 161) (v := ?_) rfl rfl (by kernel_rfl) (by kernel_rfl) (by kernel_rfl) (fun _ _ _ h => h) (Or.inl ⟨by rfl, ?hyb18⟩) (by assumption) ?restb18
    case hyb18 => (intro w hSw; (try dsimp only at hSw); go_simp; try with_reducible rfl)
    simp only [Act.put, List.setIfInBounds_toArray, List.set_cons_zero, List.set_cons_succ]
    refine take_at (i := 19) (d := some 162) (v := ?_) rfl rfl (by kernel_rfl) (by kernel_rfl) (by kernel_rfl) (fun _ _ _ h => h) (Or.inl ⟨by rfl, ?hyb19⟩) (by assumption) ?restb19
    case hyb19 => (intro w hSw; (try dsimp only at hSw); go_simp; try with_reducible rfl)
    simp only [Act.put, List.setIfInBounds_toArray, List.set_cons_zero, List.set_cons_succ]
    refine take_at (i := 20) (d := some 163) (v := ?_) rfl rfl (by kernel_rfl) (by kernel_rfl) (by kernel_rfl) (fun _ _ _ h => h) (Or.inl ⟨by rfl, ?hyb20⟩) (by assumption) ?restb20
    case hyb20 => (intro w hSw; (try dsimp only at hSw); go_simp; try with_reducible rfl)
    simp only [Act.put, List.setIfInBounds_toArray, List.set_cons_zero, List.set_cons_succ]
    refine take_at (i := 21) (d := some 164) (v := ?_) rfl rfl (by kernel_rfl) (by kernel_rfl) (by kernel_rfl) (fun _ _ _ h => h) (Or.inl ⟨by rfl, ?hyb21⟩) (by assumption) ?restb21
    case hyb21 => (intro w hSw; (try dsimp only at hSw); go_simp; try with_reducible rfl)
    simp only [Act.put, List.setIfInBounds_toArray, List.set_cons_zero, List.set_cons_succ]
    refine take_at (i := 23) (d := some 166) (v := ?_) rfl rfl (by kernel_rfl) (by kernel_rfl) (by kernel_rfl) (fun _ _ _ h => h) (Or.inl ⟨by rfl, ?hyb23⟩) (by assumption) ?restb23
    case hyb23 => (intro w hSw; (try dsimp only at hSw); go_simp; try with_reducible rfl)
    simp only [Act.put, List.setIfInBounds_toArray, List.set_cons_zero, List.set_cons_succ]
    refine wpAnyH_ready (rs := [22]) (by kernel_rfl) (by simp) ?_
    refine AllReadyH.cons rfl (fun K hK => ?_) AllReadyH.nil
    go_simp
    go_at_call 18; refine (CI.out _).mono ?_; rintro e v22 ⟨rfl, hq⟩; have hA := hA.below ⟨hq.os, hq.tape, hq.output, hq.size, hq.block⟩; have hO := hO.below ⟨hq.os, hq.tape, hq.output, hq.size, hq.block⟩; have hN := hN.below ⟨hq.os, hq.tape, hq.output, hq.size, hq.block⟩; have hS := hS.below ⟨hq.os, hq.tape, hq.output, hq.size, hq.block⟩; have hW := hW.below ⟨hq.os, hq.tape, hq.output, hq.size, hq.block⟩; have hP := hP.below ⟨hq.os, hq.tape, hq.output, hq.size, hq.block⟩; have hQ := hQ.below ⟨hq.os, hq.tape, hq.output, hq.size, hq.block⟩; have hBL := ext_step hBL ⟨hq.os, hq.tape, hq.output, hq.size, hq.block⟩; clear hq
    try go_wp2_with fail
    refine hK.out _ _ ?_ (fun hHeld => ?_)
    · exact ⟨hA.c0, hA.c1, hO.c0, hO.c1, hN.c0, hN.c1, hS.c0, hS.c1, hW.c0, hW.c1, hP.c0, hP.c1, hQ.c0, hQ.c1⟩
    clear hK K
    refine take_at (i := 24) (d := some 167) (v := ?_) rfl rfl (by kernel_rfl) (by kernel_rfl) (by kernel_rfl) (fun _ _ _ h => h) (Or.inl ⟨by rfl, ?hyb24⟩) (by assumption) ?restb24
    case hyb24 => (intro w hSw; (try dsimp only at hSw); go_simp; try with_reducible rfl)
    simp only [Act.put, List.setIfInBounds_toArray, List.set_cons_zero, List.set_cons_succ]
    refine take_at (i := 25) (d := some 168) (v := ?_) rfl rfl (by kernel_rfl) (by kernel_rfl) (by kernel_rfl) (fun _ _ _ h => h) (Or.inl ⟨by rfl, ?hyb25⟩) (by assumption) ?restb25
    case hyb25 => (intro w hSw; (try dsimp only at hSw); go_simp; try with_reducible rfl)
    simp only [Act.put, List.setIfInBounds_toArray, List.set_cons_zero, List.set_cons_succ]
    refine take_at (i := 26) (d := some 169) (v := ?_) rfl rfl (by kernel_rfl) (by kernel_rfl) (by kernel_rfl) (fun _ _ _ h => h) (Or.inl ⟨by rfl, ?hyb26⟩) (by assumption) ?restb26
    case hyb26 => (intro w hSw; (try dsimp only at hSw); go_simp; try with_reducible rfl)
    simp only [Act.put, List.setIfInBounds_toArray, List.set_cons_zero, List.set_cons_succ]
    refine take_at (i := 27) (d := some 170) (v := ?_) rfl rfl (by kernel_rfl) (by kernel_rfl) (by kernel_rfl) (fun _ _ _ h => h) (Or.inl ⟨by rfl, ?hyb27⟩) (by assumption) ?restb27
    case hyb27 => (intro w hSw; (try dsimp only at hSw); go_simp; try with_reducible rfl)
    simp only [Act.put, List.setIfInBounds_toArray, List.set_cons_zero, List.set_cons_succ]
    refine take_at (i := 29) (d := some 172) (v := ?_) rfl rfl (by kernel_rfl) (by kernel_rfl) (by kernel_rfl) (fun _ _ _ h => h) (Or.inl ⟨by rfl, ?hyb29⟩) (by assumption) ?restb29
    case hyb29 => (intro w hSw; (try dsimp only at hSw); go_simp; try with_reducible rfl)
    simp only [Act.put, List.setIfInBounds_toArray, List.set_cons_zero, List.set_cons_succ]
    refine take_at (i := 30) (d := some 173) (v := ?_) rfl rfl (by kernel_rfl) (by kernel_rfl) (by kernel_rfl) (fun _ _ _ h => h) (Or.inl ⟨by rfl, ?hyb30⟩) (by assumption) ?restb30
    case hyb30 => (intro w hSw; (try dsimp only at hSw); go_simp; try with_reducible rfl)
    simp only [Act.put, List.setIfInBounds_toArray, List.set_cons_zero, List.set_cons_succ]
    refine take_at (i := 31) (d := some 174) (v := ?_) rfl rfl (by kernel_rfl) (by kernel_rfl) (by kernel_rfl) (fun _ _ _ h => h) (Or.inl ⟨by rfl, ?hyb31⟩) (by assumption) ?restb31
    case hyb31 => (intro w hSw; (try dsimp only at hSw); go_simp; try with_reducible rfl)
    simp only [Act.put, List.setIfInBounds_toArray, List.set_cons_zero, List.set_cons_succ]
    refine take_at (i := 32) (d := some 175) (v := ?_) rfl rfl (by kernel_rfl) (by kernel_rfl) (by kernel_rfl) (fun _ _ _ h => h) (Or.inl ⟨by rfl, ?hyb32⟩) (by assumption) ?restb32
    case hyb32 => (intro w hSw; (try dsimp only at hSw); go_simp; try with_reducible rfl)
    simp only [Act.put, List.setIfInBounds_toArray, List.set_cons_zero, List.set_cons_succ]
    refine take_at (i := 33) (d := some 176) (v := ?_) rfl rfl (by kernel_rfl) (by kernel_rfl) (by kernel_rfl) (fun _ _ _ h => h) (Or.inl ⟨by rfl, ?hyb33⟩) (by assumption) ?restb33
    case hyb33 => (intro w hSw; (try dsimp only at hSw); go_simp; try with_reducible rfl)
    simp only [Act.put, List.setIfInBounds_toArray, List.set_cons_zero, List.set_cons_succ]
    refine take_at (i := 34) (d := some 177) (v := ?_) rfl rfl (by kernel_rfl) (by kernel_rfl) (by kernel_rfl) (fun _ _ _ h => h) (Or.inl ⟨by rfl, ?hyb34⟩) (by assumption) ?restb34
    case hyb34 => (intro w hSw; (try dsimp only at hSw); go_simp; try with_reducible rfl)
    simp only [Act.put, List.setIfInBounds_toArray, List.set_cons_zero, List.set_cons_succ]
    refine take_at (i := 35) (d := some 178) (v := ?_) rfl rfl (by kernel_rfl) (by kernel_rfl) (by kernel_rfl) (fun _ _ _ h => h) (Or.inl ⟨by rfl, ?hyb35⟩) (by assumption) ?restb35
    case hyb35 => (intro w hSw; (try dsimp only at hSw); go_simp; try with_reducible rfl)
    simp only [Act.put, List.setIfInBounds_toArray, List.set_cons_zero, List.set_cons_succ]
    refine wpAnyH_ready (rs := [28]) (by kernel_rfl) (by simp) ?_
    refine AllReadyH.cons rfl (fun K hK => ?_) AllReadyH.nil
    go_simp
    go_at_call 19; refine (CW.out _).mono ?_; rintro e v28 ⟨rfl, hq⟩; have hA := hA.below ⟨hq.os, hq.tape, hq.output, hq.size, hq.block⟩; have hO := hO.below ⟨hq.os, hq.tape, hq.output, hq.size, hq.block⟩; have hN := hN.below ⟨hq.os, hq.tape, hq.output, hq.size, hq.block⟩; have hS := hS.below ⟨hq.os, hq.tape, hq.output, hq.size, hq.block⟩; have hW := hW.below ⟨hq.os, hq.tape, hq.output, hq.size, hq.block⟩; have hP := hP.below ⟨hq.os, hq.tape, hq.output, hq.size, hq.block⟩; have hQ := hQ.below ⟨hq.os, hq.tape, hq.output, hq.size, hq.block⟩; have hBL := ext_step hBL ⟨hq.os, hq.tape, hq.output, hq.size, hq.block⟩; clear hq
    try go_wp2_with fail
    refine hK.out _ _ ?_ (fun hHeld => ?_)
    · exact ⟨hA.c0, hA.c1, hO.c0, hO.c1, hN.c0, hN.c1, hS.c0, hS.c1, hW.c0, hW.c1, hP.c0, hP.c1, hQ.c0, hQ.c1⟩
    clear hK K
    refine take_at (i := 36) (d := some 179) (v := ?_) rfl rfl (by kernel_rfl) (by kernel_rfl) (by kernel_rfl) (fun _ _ _ h => h) (Or.inl ⟨by rfl, ?hyb36⟩) (by assumption) ?restb36
    case hyb36 => (intro w hSw; (try dsimp only at hSw); go_simp; try with_reducible rfl)
    simp only [Act.put, List.setIfInBounds_toArray, List.set_cons_zero, List.set_cons_succ]
    refine take_at (i := 37) (d := some 180) (v := ?_) rfl rfl (by kernel_rfl) (by kernel_rfl) (by kernel_rfl) (fun _ _ _ h => h) (Or.inl ⟨by rfl, ?hyb37⟩) (by assumption) ?restb37
    case hyb37 => (intro w hSw; (try dsimp only at hSw); go_simp; try with_reducible rfl)
    simp only [Act.put, List.setIfInBounds_toArray, List.set_cons_zero, List.set_cons_succ]
    refine take_at (i := 38) (d := some 8) (v := ?_) rfl rfl (by kernel_rfl) (by kernel_rfl) (by kernel_rfl) (fun _ _ _ h => h) (Or.inl ⟨by rfl, ?hyb38⟩) (by assumption) ?restb38
    case hyb38 => (intro w hSw; (try dsimp only at hSw); go_simp; try with_reducible rfl)
    simp only [Act.put, List.setIfInBounds_toArray, List.set_cons_zero, List.set_cons_succ]
    refine wpAnyH_done (by kernel_rfl) ?_ _
    all_goals
      go_wp2_with fail
      go_ret
      exact ⟨ret_bool HZ.out, hBL⟩
end Go.Proofs.Ythkeofpmappdhaa
