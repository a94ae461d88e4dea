/- The walk of 'WideSums': for all longs and lists it answers true. -/
import Derived.Test.YtedojpblfmkjeaaDoorAlive2
import Derived.Test.YtedojpblfmkjeaaDoorSame
import Derived.Test.YtedojpblfmkjeaaDoorRefI
import Derived.Test.YtedojpblfmkjeaaDoorCopyLongs
namespace Go.Proofs.YtedojpblfmkjeaaDoor
open Go.RowKit

theorem same_ok (x : Int) (h : Two x) (r : Value) (w : World) (hx : NumV w r x) :
    Calls Tryd.prog 14 #[.agg #[.int .i64 ((x) / 18446744073709551616), .int .u64 ((x) % 18446744073709551616)], .int .i64 0, r] w fun e w' => e = .returned (.bool true) ∧ Below w.heap.size w w' := by
  have hs := same_any x r w 9 hx (two_mag h) (by omega) (by omega)
  rw [twoV_fit h, twoE_fit h] at hs
  exact hs

set_option maxRecDepth 100000 in
set_option maxHeartbeats 4000000 in
theorem wsums_walk (a b : Int) (v : Value) (zs : List Int) (w : World) (hp : Pows w) (ha : Fits a) (hb : Fits b) (hl : Lst w w.heap.size .i64 v zs) (hf : ∀ z ∈ zs, Fits z) (hbig : zs.length ≤ 9223372036854775807) :
    Calls Tryd.prog 4 #[.int .i64 a, .int .i64 b, v] w fun e w' => e = .returned (.bool true) ∧ Below w.heap.size w w' := by
  have C0 := Lib.hid alive2_any
  have HL := Lib.hid hl
  obtain ⟨A, c, rfl⟩ := hl.len
  by_cases h100 : 100 < zs.length
  · have h100' : 100 < (zs.length : Int) := by omega
    clear hl
    go_enter Tryd.func4, Tryd.ntmps4
    go_wp2_with fail
    refine (C0.out _ hp).mono ?_; rintro e w1 ⟨rfl, h1⟩
    go_wp2_with fail
    go_ret
    exact ⟨rfl, h1⟩
  · have h100' : ¬ 100 < (zs.length : Int) := by omega
    have ts : Two zs.sum := by
      rw [two_bd, ← psum_all]; have := psum_bd zs hf zs.length (Nat.le_refl _); omega
    have CO := Lib.hid (ofW_any a ha)
    have CR := Lib.hid fun W => of_any a W ha
    have CS := Lib.hid fun W => of_any b W hb
    have CM := Lib.hid fun (r u : Value) (W : World) (h : NumV W r a) (k : NumV W u b) => mulN_any r u a b W 4 h k (mag_long ha) (mag_long hb) (by omega)
    have CT := Lib.hid (timesW_any a b ha hb)
    have CC := Lib.hid fun (W : World) (h : Lst W W.heap.size .i64 (.slice A zs.length c) zs) => copyLongs_any _ zs W h (by omega)
    have CU := Lib.hid fun (u : Value) (W : World) (h : Lst W W.heap.size .i64 u zs) => sumW_any u zs W h hf hbig
    have CX := Lib.hid fun (W : World) (h : Lst W W.heap.size .i64 (.slice A zs.length c) zs) => total_any _ zs W h hf (by omega)
    have S1 := Lib.hid (same_ok a (two_of_long ha))
    have S2 := Lib.hid (same_ok (a * b) (prod_two ha hb))
    have S3 := Lib.hid (same_ok zs.sum ts)
    clear hl hf ts ha hb
    go_enter Tryd.func4, Tryd.ntmps4
    go_wp2_with fail
    refine (C0.out _ hp).mono ?_; rintro e w1 ⟨rfl, h1⟩
    go_wp2_with fail
    refine (CR.out _).mono ?_; rintro e w2 ⟨r1, rfl, hr1, h2⟩
    have B2 := ext_step h1 h2
    go_wp2_with fail
    refine (CS.out _).mono ?_; rintro e w3 ⟨r2, rfl, hr2, h3⟩
    have B3 := ext_step B2 h3
    have hr1 := hr1.below h3
    go_wp2_with fail
    refine (CM.out r1 r2 _ hr1 hr2).mono ?_; rintro e w4 ⟨r3, rfl, hr3, h4⟩
    have B4 := ext_step B3 h4
    obtain ⟨s3, A3, n3, c3, rfl, -, -⟩ := hr3.form
    have hT := NumAt.new hr3 34
    have hBL := ext_alloc B4 (.cells #[.bool s3, .slice A3 n3 c3] 34)
    go_upto_region 6 with fail
    go_region_held3 (fun w' => w'.cell? ⟨w4.heap.size, 0, none⟩ = some (.bool s3) ∧ w'.cell? ⟨w4.heap.size, 1, none⟩ = some (.slice A3 n3 c3))
      (exact ⟨hT.c0, hT.c1⟩)
      (first
        | (go_at_call 21; refine (CO.out _).mono ?_; rintro e w8 ⟨rfl, hq⟩; have hT := hT.below ⟨hq.os, hq.tape, hq.output, hq.size, hq.block⟩; have hBL := ext_step hBL ⟨hq.os, hq.tape, hq.output, hq.size, hq.block⟩)
        | (go_at_call 20; refine (CR.out _).mono ?_; rintro e w9 ⟨rO, rfl, hrO, hq⟩; have hT := hT.below ⟨hq.os, hq.tape, hq.output, hq.size, hq.block⟩; have hBL := ext_step hBL ⟨hq.os, hq.tape, hq.output, hq.size, hq.block⟩)
        | (go_at_call_of 14 rO; refine (S1.out rO _ (by exact hrO)).mono ?_; rintro e w10 ⟨rfl, hq⟩; have hT := hT.below ⟨hq.os, hq.tape, hq.output, hq.size, hq.block⟩; have hBL := ext_step hBL ⟨hq.os, hq.tape, hq.output, hq.size, hq.block⟩)
        | (go_at_call 22; refine (CT.out _).mono ?_; rintro e w11 ⟨rfl, hq⟩; have hT := hT.below ⟨hq.os, hq.tape, hq.output, hq.size, hq.block⟩; have hBL := ext_step hBL ⟨hq.os, hq.tape, hq.output, hq.size, hq.block⟩)
        | (go_at_call_of 14 A3; refine (S2.out _ _ (by exact hT.num)).mono ?_; rintro e w12 ⟨rfl, hq⟩; have hT := hT.below ⟨hq.os, hq.tape, hq.output, hq.size, hq.block⟩; have hBL := ext_step hBL ⟨hq.os, hq.tape, hq.output, hq.size, hq.block⟩)
        | (go_at_call 24; refine (CC.out _ (by exact (HL.out.below hBL).more hBL.size)).mono ?_; rintro e w13 ⟨v2, rfl, ho, hq⟩; have L2 := ho.lst; clear ho; have hT := hT.below ⟨hq.os, hq.tape, hq.output, hq.size, hq.block⟩; have hBL := ext_step hBL ⟨hq.os, hq.tape, hq.output, hq.size, hq.block⟩)
        | (go_at_call 23; refine (CU.out v2 _ (by exact L2)).mono ?_; rintro e w14 ⟨rfl, hq⟩; have hT := hT.below ⟨hq.os, hq.tape, hq.output, hq.size, hq.block⟩; have hBL := ext_step hBL ⟨hq.os, hq.tape, hq.output, hq.size, hq.block⟩)
        | (go_at_call 25; refine (CX.out _ (by exact (HL.out.below hBL).more hBL.size)).mono ?_; rintro e w15 ⟨rT, rfl, hrT, hq⟩; have hT := hT.below ⟨hq.os, hq.tape, hq.output, hq.size, hq.block⟩; have hBL := ext_step hBL ⟨hq.os, hq.tape, hq.output, hq.size, hq.block⟩)
        | (go_at_call_of 14 rT; refine (S3.out rT _ (by exact hrT)).mono ?_; rintro e w16 ⟨rfl, hq⟩; have hT := hT.below ⟨hq.os, hq.tape, hq.output, hq.size, hq.block⟩; have hBL := ext_step hBL ⟨hq.os, hq.tape, hq.output, hq.size, hq.block⟩))
    all_goals
      go_wp2_with fail
      go_ret
      exact ⟨rfl, hBL⟩
end Go.Proofs.YtedojpblfmkjeaaDoor
