/- Law 3's GapAnswers, walked from package gap's contracts. -/
import Derived.Test.YthkeofpmappdhaaGapC
namespace Go.Proofs.Ythkeofpmappdhaa
open Go.RowKit


set_option maxRecDepth 100000 in
set_option maxHeartbeats 8000000 in
theorem gapAnswers_no (G : GapC) (a b c d x y : Int) (w : World) (ha : Fits a) (hb : Fits b) (hx : Fits x) (hy : Fits y) (hr : ¬ a ≤ b) :
    Calls Try.prog 3 #[gapV a b, gapV c d, .int .i64 x, .int .i64 y] w fun e w' => e = .returned (.bool true) ∧ Below w.heap.size w w' := by
  have CAL := Lib.hid (alive3_any G)
  have CN := Lib.hid fun W => gcall_as (Q' := fun e w' => e = .returned (.tuple #[gapV 0 0, .bool false]) ∧ Below W.heap.size W w') (G.new a b W ha hb) rfl fun e w' ⟨he, h⟩ => ⟨by rw [he, if_neg hr, if_neg hr, decide_eq_false hr], h⟩
  have CS := Lib.hid fun W => G.shift a b x W ha hb hx
  have CG := Lib.hid fun W => G.grow a b x y W ha hb hx hy
  have CP := Lib.hid fun W => rShift_any a b x W ha hb hx
  have CQ := Lib.hid fun W => rGrow_any a b x y W ha hb hx hy
  have CF := Lib.hid fun u v W => of3_any u v W
  have CM := Lib.hid fun W => G.mid a b W ha hb
  have CK := Lib.hid fun W => rMid_any a b W ha hb
  have CR := Lib.hid (G.right a b)
  have CH := Lib.hid (G.has a b x)
  have CI := Lib.hid (G.within a b c d)
  have CJ := Lib.hid (G.within c d a b)
  have CW := Lib.hid fun W => G.width a b W ha hb
  unfold GapE at CS CG CP CQ
  generalize shiftI a b x = sh at *
  generalize growI a b x y = gr at *
  obtain ⟨s1, s2, s3⟩ := sh
  obtain ⟨g1, g2, g3⟩ := gr
  dsimp only at CS CG CP CQ
  generalize midI a b = md at *
  have er : decide (a ≤ b) = false := decide_eq_false hr
  rw [er] at CR
  have HRR := Lib.hid hr
  have HFA := Lib.hid ha
  have HFB := Lib.hid hb
  clear G hr ha hb hx hy
  have hA := (At2.new w (.int .i64 a) (.int .i64 b) 23).alloc (.cells #[.int .i64 c, .int .i64 d] 23)
  have hO := At2.new (w.alloc (.cells #[.int .i64 a, .int .i64 b] 23)) (.int .i64 c) (.int .i64 d) 23
  rw [World.size_alloc] at hO
  have hBL := grew2 w (.cells #[.int .i64 a, .int .i64 b] 23) (.cells #[.int .i64 c, .int .i64 d] 23)
  go_enter Try.func3, Try.ntmps3
  go_wp2_with fail
  refine (CAL.out _).mono ?_; rintro e w1 ⟨rfl, h⟩
  replace hA := hA.below h; replace hO := hO.below h; replace hBL := ext_step hBL h; clear h
  obtain ⟨a0, a1, -, -⟩ := id hA
  go_wp2_with fail
  clear a0 a1
  refine (CN.out w1).mono ?_; rintro e w2 ⟨rfl, h⟩
  replace hA := (hA.below h).alloc (.cells #[.int .i64 0, .int .i64 0] 23)
  replace hO := (hO.below h).alloc (.cells #[.int .i64 0, .int .i64 0] 23)
  replace hBL := ext_alloc (ext_step hBL h) (.cells #[.int .i64 0, .int .i64 0] 23); clear h
  have hN := At2.new w2 (.int .i64 0) (.int .i64 0) 23
  generalize hgN : w2.heap.size = gN at hN
  obtain ⟨a0, a1, -, -⟩ := id hA
  go_wp2_with fail
  generalize w2.alloc (.cells #[.int .i64 0, .int .i64 0] 23) = W2 at *
  clear a0 a1
  refine (CS.out W2).mono ?_; rintro e w3 ⟨rfl, h⟩
  replace hA := (hA.below h).alloc (.cells #[.int .i64 s1, .int .i64 s2] 23)
  replace hO := (hO.below h).alloc (.cells #[.int .i64 s1, .int .i64 s2] 23)
  replace hN := (hN.below h).alloc (.cells #[.int .i64 s1, .int .i64 s2] 23)
  replace hBL := ext_alloc (ext_step hBL h) (.cells #[.int .i64 s1, .int .i64 s2] 23); clear h
  have hS := At2.new w3 (.int .i64 s1) (.int .i64 s2) 23
  generalize hgS : w3.heap.size = gS at hS
  obtain ⟨a0, a1, -, -⟩ := id hA
  go_wp2_with fail
  generalize w3.alloc (.cells #[.int .i64 s1, .int .i64 s2] 23) = W3 at *
  clear a0 a1
  refine (CG.out W3).mono ?_; rintro e w4 ⟨rfl, h⟩
  replace hA := (hA.below h).alloc (.cells #[.int .i64 g1, .int .i64 g2] 23)
  replace hO := (hO.below h).alloc (.cells #[.int .i64 g1, .int .i64 g2] 23)
  replace hN := (hN.below h).alloc (.cells #[.int .i64 g1, .int .i64 g2] 23)
  replace hS := (hS.below h).alloc (.cells #[.int .i64 g1, .int .i64 g2] 23)
  replace hBL := ext_alloc (ext_step hBL h) (.cells #[.int .i64 g1, .int .i64 g2] 23); clear h
  have hW := At2.new w4 (.int .i64 g1) (.int .i64 g2) 23
  generalize hgW : w4.heap.size = gW at hW
  obtain ⟨a0, a1, -, -⟩ := id hA
  go_wp2_with fail
  generalize w4.alloc (.cells #[.int .i64 g1, .int .i64 g2] 23) = W4 at *
  refine (CF.out a b W4).mono ?_; rintro e w5 ⟨rfl, h⟩
  clear a0 a1
  replace hA := hA.below h
  replace hO := hO.below h
  replace hN := hN.below h
  replace hS := hS.below h
  replace hW := hW.below h
  replace hBL := ext_step hBL h; clear h
  go_wp2_with fail
  refine (CP.out w5).mono ?_; rintro e w6 ⟨rfl, h⟩
  replace hA := (hA.below h).alloc (.cells #[.int .i64 s1, .int .i64 s2] 31)
  replace hO := (hO.below h).alloc (.cells #[.int .i64 s1, .int .i64 s2] 31)
  replace hN := (hN.below h).alloc (.cells #[.int .i64 s1, .int .i64 s2] 31)
  replace hS := (hS.below h).alloc (.cells #[.int .i64 s1, .int .i64 s2] 31)
  replace hW := (hW.below h).alloc (.cells #[.int .i64 s1, .int .i64 s2] 31)
  replace hBL := ext_alloc (ext_step hBL h) (.cells #[.int .i64 s1, .int .i64 s2] 31); clear h
  have hP := At2.new w6 (.int .i64 s1) (.int .i64 s2) 31
  generalize hgP : w6.heap.size = gP at hP
  obtain ⟨a0, a1, -, -⟩ := id hA
  go_wp2_with fail
  generalize w6.alloc (.cells #[.int .i64 s1, .int .i64 s2] 31) = W6 at *
  refine (CF.out a b W6).mono ?_; rintro e w7 ⟨rfl, h⟩
  clear a0 a1
  replace hA := hA.below h
  replace hO := hO.below h
  replace hN := hN.below h
  replace hS := hS.below h
  replace hW := hW.below h
  replace hP := hP.below h
  replace hBL := ext_step hBL h; clear h
  go_wp2_with fail
  refine (CQ.out w7).mono ?_; rintro e w8 ⟨rfl, h⟩
  replace hA := (hA.below h).alloc (.cells #[.int .i64 g1, .int .i64 g2] 31)
  replace hO := (hO.below h).alloc (.cells #[.int .i64 g1, .int .i64 g2] 31)
  replace hN := (hN.below h).alloc (.cells #[.int .i64 g1, .int .i64 g2] 31)
  replace hS := (hS.below h).alloc (.cells #[.int .i64 g1, .int .i64 g2] 31)
  replace hW := (hW.below h).alloc (.cells #[.int .i64 g1, .int .i64 g2] 31)
  replace hP := (hP.below h).alloc (.cells #[.int .i64 g1, .int .i64 g2] 31)
  replace hBL := ext_alloc (ext_step hBL h) (.cells #[.int .i64 g1, .int .i64 g2] 31); clear h
  have hQ := At2.new w8 (.int .i64 g1) (.int .i64 g2) 31
  generalize hgQ : w8.heap.size = gQ at hQ
  obtain ⟨a0, a1, -, -⟩ := id hA
  go_upto_region 9 with fail
  clear a0 a1
  change Code.wp _ _ _ _ (w8.alloc (.cells #[.int .i64 g1, .int .i64 g2] 31))
  generalize w8.alloc (.cells #[.int .i64 g1, .int .i64 g2] 31) = W8 at *
  go_region_held3 (fun w' => w'.cell? ⟨w.heap.size, 0, none⟩ = some (.int .i64 a) ∧ w'.cell? ⟨w.heap.size, 1, none⟩ = some (.int .i64 b) ∧ w'.cell? ⟨(w.heap.size + 1), 0, none⟩ = some (.int .i64 c) ∧ w'.cell? ⟨(w.heap.size + 1), 1, none⟩ = some (.int .i64 d) ∧ w'.cell? ⟨gN, 0, none⟩ = some (.int .i64 0) ∧ w'.cell? ⟨gN, 1, none⟩ = some (.int .i64 0) ∧ w'.cell? ⟨gS, 0, none⟩ = some (.int .i64 s1) ∧ w'.cell? ⟨gS, 1, none⟩ = some (.int .i64 s2) ∧ w'.cell? ⟨gW, 0, none⟩ = some (.int .i64 g1) ∧ w'.cell? ⟨gW, 1, none⟩ = some (.int .i64 g2) ∧ w'.cell? ⟨gP, 0, none⟩ = some (.int .i64 s1) ∧ w'.cell? ⟨gP, 1, none⟩ = some (.int .i64 s2) ∧ w'.cell? ⟨gQ, 0, none⟩ = some (.int .i64 g1) ∧ w'.cell? ⟨gQ, 1, none⟩ = some (.int .i64 g2)) (exact ⟨hA.c0, hA.c1, hO.c0, hO.c1, hN.c0, hN.c1, hS.c0, hS.c1, hW.c0, hW.c1, hP.c0, hP.c1, hQ.c0, hQ.c1⟩)
    (first
      | (go_at_call 14; refine (CR.out _).mono ?_; rintro e v0 ⟨rfl, hq⟩; have hA := hA.below ⟨hq.os, hq.tape, hq.output, hq.size, hq.block⟩; have hO := hO.below ⟨hq.os, hq.tape, hq.output, hq.size, hq.block⟩; have hN := hN.below ⟨hq.os, hq.tape, hq.output, hq.size, hq.block⟩; have hS := hS.below ⟨hq.os, hq.tape, hq.output, hq.size, hq.block⟩; have hW := hW.below ⟨hq.os, hq.tape, hq.output, hq.size, hq.block⟩; have hP := hP.below ⟨hq.os, hq.tape, hq.output, hq.size, hq.block⟩; have hQ := hQ.below ⟨hq.os, hq.tape, hq.output, hq.size, hq.block⟩; have hBL := ext_step hBL ⟨hq.os, hq.tape, hq.output, hq.size, hq.block⟩; clear hq)
      | (go_at_call_of 12 s1; refine (CF.out s1 s2 _).mono ?_; rintro e v1 ⟨rfl, hq⟩; have hA := hA.below ⟨hq.os, hq.tape, hq.output, hq.size, hq.block⟩; have hO := hO.below ⟨hq.os, hq.tape, hq.output, hq.size, hq.block⟩; have hN := hN.below ⟨hq.os, hq.tape, hq.output, hq.size, hq.block⟩; have hS := hS.below ⟨hq.os, hq.tape, hq.output, hq.size, hq.block⟩; have hW := hW.below ⟨hq.os, hq.tape, hq.output, hq.size, hq.block⟩; have hP := hP.below ⟨hq.os, hq.tape, hq.output, hq.size, hq.block⟩; have hQ := hQ.below ⟨hq.os, hq.tape, hq.output, hq.size, hq.block⟩; have hBL := ext_step hBL ⟨hq.os, hq.tape, hq.output, hq.size, hq.block⟩; clear hq)
      | (go_at_call_of 12 g1; refine (CF.out g1 g2 _).mono ?_; rintro e v2 ⟨rfl, hq⟩; have hA := hA.below ⟨hq.os, hq.tape, hq.output, hq.size, hq.block⟩; have hO := hO.below ⟨hq.os, hq.tape, hq.output, hq.size, hq.block⟩; have hN := hN.below ⟨hq.os, hq.tape, hq.output, hq.size, hq.block⟩; have hS := hS.below ⟨hq.os, hq.tape, hq.output, hq.size, hq.block⟩; have hW := hW.below ⟨hq.os, hq.tape, hq.output, hq.size, hq.block⟩; have hP := hP.below ⟨hq.os, hq.tape, hq.output, hq.size, hq.block⟩; have hQ := hQ.below ⟨hq.os, hq.tape, hq.output, hq.size, hq.block⟩; have hBL := ext_step hBL ⟨hq.os, hq.tape, hq.output, hq.size, hq.block⟩; clear hq)
      | (go_at_call 15; refine (CM.out _).mono ?_; rintro e v3 ⟨rfl, hq⟩; have hA := hA.below ⟨hq.os, hq.tape, hq.output, hq.size, hq.block⟩; have hO := hO.below ⟨hq.os, hq.tape, hq.output, hq.size, hq.block⟩; have hN := hN.below ⟨hq.os, hq.tape, hq.output, hq.size, hq.block⟩; have hS := hS.below ⟨hq.os, hq.tape, hq.output, hq.size, hq.block⟩; have hW := hW.below ⟨hq.os, hq.tape, hq.output, hq.size, hq.block⟩; have hP := hP.below ⟨hq.os, hq.tape, hq.output, hq.size, hq.block⟩; have hQ := hQ.below ⟨hq.os, hq.tape, hq.output, hq.size, hq.block⟩; have hBL := ext_step hBL ⟨hq.os, hq.tape, hq.output, hq.size, hq.block⟩; clear hq)
      | (go_at_call_of 12 a; refine (CF.out a b _).mono ?_; rintro e v4 ⟨rfl, hq⟩; have hA := hA.below ⟨hq.os, hq.tape, hq.output, hq.size, hq.block⟩; have hO := hO.below ⟨hq.os, hq.tape, hq.output, hq.size, hq.block⟩; have hN := hN.below ⟨hq.os, hq.tape, hq.output, hq.size, hq.block⟩; have hS := hS.below ⟨hq.os, hq.tape, hq.output, hq.size, hq.block⟩; have hW := hW.below ⟨hq.os, hq.tape, hq.output, hq.size, hq.block⟩; have hP := hP.below ⟨hq.os, hq.tape, hq.output, hq.size, hq.block⟩; have hQ := hQ.below ⟨hq.os, hq.tape, hq.output, hq.size, hq.block⟩; have hBL := ext_step hBL ⟨hq.os, hq.tape, hq.output, hq.size, hq.block⟩; clear hq)
      | (go_at_call 16; refine (CK.out _).mono ?_; rintro e v5 ⟨rfl, hq⟩; have hA := hA.below ⟨hq.os, hq.tape, hq.output, hq.size, hq.block⟩; have hO := hO.below ⟨hq.os, hq.tape, hq.output, hq.size, hq.block⟩; have hN := hN.below ⟨hq.os, hq.tape, hq.output, hq.size, hq.block⟩; have hS := hS.below ⟨hq.os, hq.tape, hq.output, hq.size, hq.block⟩; have hW := hW.below ⟨hq.os, hq.tape, hq.output, hq.size, hq.block⟩; have hP := hP.below ⟨hq.os, hq.tape, hq.output, hq.size, hq.block⟩; have hQ := hQ.below ⟨hq.os, hq.tape, hq.output, hq.size, hq.block⟩; have hBL := ext_step hBL ⟨hq.os, hq.tape, hq.output, hq.size, hq.block⟩; clear hq))
  have HCH : decide (a ≤ x ∧ x ≤ b) = false := decide_eq_false (by have := HRR.out; omega)
  rw [HCH] at CH
  have HCI : decide (a ≤ b ∧ c ≤ a ∧ b ≤ d) = false := decide_eq_false (by have := HRR.out; omega)
  rw [HCI] at CI
  have HCJ : decide (c ≤ d ∧ a ≤ c ∧ d ≤ b) = false := decide_eq_false (by have := HRR.out; omega)
  rw [HCJ] at CJ
  rw [if_neg (show ¬ a ≤ b by have := HRR.out; omega)] at CW
  clear HCH HCI HCJ
  obtain ⟨n0, n1, -, -⟩ := id hN
  obtain ⟨a0, a1, -, -⟩ := id hA
  go_wp2_with fail
  refine (CH.out _).mono ?_; rintro e q0 ⟨rfl, hq⟩
  clear n0 n1 a0 a1
  replace hA := hA.below hq
  replace hO := hO.below hq
  replace hN := hN.below hq
  replace hS := hS.below hq
  replace hW := hW.below hq
  replace hP := hP.below hq
  replace hQ := hQ.below hq
  replace hBL := ext_step hBL hq; clear hq
  obtain ⟨a0, a1, -, -⟩ := id hA
  obtain ⟨o0, o1, -, -⟩ := id hO
  go_wp2_with fail
  refine (CI.out _).mono ?_; rintro e q1 ⟨rfl, hq⟩
  clear a0 a1 o0 o1
  replace hA := hA.below hq
  replace hO := hO.below hq
  replace hN := hN.below hq
  replace hS := hS.below hq
  replace hW := hW.below hq
  replace hP := hP.below hq
  replace hQ := hQ.below hq
  replace hBL := ext_step hBL hq; clear hq
  obtain ⟨o0, o1, -, -⟩ := id hO
  obtain ⟨a0, a1, -, -⟩ := id hA
  go_wp2_with fail
  refine (CJ.out _).mono ?_; rintro e q2 ⟨rfl, hq⟩
  clear o0 o1 a0 a1
  replace hA := hA.below hq
  replace hO := hO.below hq
  replace hN := hN.below hq
  replace hS := hS.below hq
  replace hW := hW.below hq
  replace hP := hP.below hq
  replace hQ := hQ.below hq
  replace hBL := ext_step hBL hq; clear hq
  obtain ⟨a0, a1, -, -⟩ := id hA
  go_wp2_with fail
  refine (CW.out _).mono ?_; rintro e q3 ⟨rfl, hq⟩
  clear a0 a1
  replace hA := hA.below hq
  replace hO := hO.below hq
  replace hN := hN.below hq
  replace hS := hS.below hq
  replace hW := hW.below hq
  replace hP := hP.below hq
  replace hQ := hQ.below hq
  replace hBL := ext_step hBL hq; clear hq
  go_wp2_with fail
  go_ret
  exact ⟨rfl, hBL⟩
end Go.Proofs.Ythkeofpmappdhaa
