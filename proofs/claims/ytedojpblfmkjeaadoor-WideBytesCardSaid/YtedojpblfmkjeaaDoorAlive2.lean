/- That the package answers some fixed calls as asked: the walk of the guard that each law begins with; behind the table of powers as the program lays it. -/
import Derived.Test.YtedojpblfmkjeaaDoorAlive1
namespace Go.Proofs.YtedojpblfmkjeaaDoor
open Go.RowKit

set_option maxRecDepth 100000 in
set_option maxHeartbeats 4000000 in
theorem alive2_any (w : World) (hp : Pows w) : Calls Tryd.prog 8 #[] w fun e w' => e = .returned (.bool true) ∧ Below w.heap.size w w' := by
  have CO1 := Lib.hid @alive_CO1
  have COm1 := Lib.hid @alive_COm1
  have COm7 := Lib.hid @alive_COm7
  have COm2 := Lib.hid @alive_COm2
  have CA := Lib.hid @alive_CA
  have CS := Lib.hid @alive_CS
  have CP1 := Lib.hid @alive_CP1
  have CP2 := Lib.hid @alive_CP2
  have CL := Lib.hid @alive_CL
  have CC := Lib.hid @alive_CC
  have CT := Lib.hid @alive_CT
  have CX := Lib.hid @alive_CX
  have CU := Lib.hid @alive_CU
  have CB := Lib.hid @alive_CB
  have CK := Lib.hid @alive_CK
  go_enter Tryd.func8, Tryd.ntmps8
  have B0 := Below.refl w.heap.size w
  go_wp2_with fail
  refine (CO1.out _).mono ?_; rintro e w1 ⟨rfl, h1⟩
  have B1 : Below w.heap.size w w1 := ext_step B0 h1
  go_wp2_with fail
  refine (CA.out _).mono ?_; rintro e w2 ⟨rfl, h2⟩
  have B2 : Below w.heap.size w w2 := ext_step B1 h2
  have hA := AtP.new w2 (1) 0 24
  have BX2 := ext_alloc B2 (.cells #[.int .i64 (1), .int .u64 0] 24)
  go_wp2_with fail
  refine (COm1.out _).mono ?_; rintro e w3 ⟨rfl, h3⟩
  have B3 : Below w.heap.size w w3 := ext_step BX2 h3
  have hA := hA.below h3
  go_wp2_with fail
  refine (CO1.out _).mono ?_; rintro e w4 ⟨rfl, h4⟩
  have B4 : Below w.heap.size w w4 := ext_step B3 h4
  have hA := hA.below h4
  go_wp2_with fail
  refine (CS.out _).mono ?_; rintro e w5 ⟨rfl, h5⟩
  have B5 : Below w.heap.size w w5 := ext_step B4 h5
  have hA := hA.below h5
  have hA := hA.alloc (.cells #[.int .i64 (-1), .int .u64 18446744073709551614] 24)
  have hB := AtP.new w5 (-1) 18446744073709551614 24
  have BX5 := ext_alloc B5 (.cells #[.int .i64 (-1), .int .u64 18446744073709551614] 24)
  go_wp2_with fail
  refine (CP1.out _ (hp.below BX5)).mono ?_; rintro e w6 ⟨rfl, h6⟩
  have B6 : Below w.heap.size w w6 := ext_step BX5 h6
  have hA := hA.below h6
  have hB := hB.below h6
  have hA := hA.alloc (.cells #[.int .i64 (-2), .int .u64 18446744073709551615] 24)
  have hB := hB.alloc (.cells #[.int .i64 (-2), .int .u64 18446744073709551615] 24)
  have hC := AtP.new w6 (-2) 18446744073709551615 24
  have BX6 := ext_alloc B6 (.cells #[.int .i64 (-2), .int .u64 18446744073709551615] 24)
  go_wp2_with fail
  refine (CB.out _).mono ?_; rintro e w7 ⟨v7, rfl, ho7, h7⟩
  have L7 := Lib.hid ho7.lst
  clear ho7
  have B7 : Below w.heap.size w w7 := ext_step BX6 h7
  have hA := hA.below h7
  have hB := hB.below h7
  have hC := hC.below h7
  go_wp2_with fail
  refine (CK.out v7 _ L7.out).mono ?_; rintro e w8 ⟨rfl, h8⟩
  have B8 : Below w.heap.size w w8 := ext_step B7 h8
  have hA := hA.below h8
  have hB := hB.below h8
  have hC := hC.below h8
  have hA := hA.alloc (.cells #[.int .i64 (-2), .int .u64 18446744073709551615] 24)
  have hB := hB.alloc (.cells #[.int .i64 (-2), .int .u64 18446744073709551615] 24)
  have hC := hC.alloc (.cells #[.int .i64 (-2), .int .u64 18446744073709551615] 24)
  have hD := AtP.new w8 (-2) 18446744073709551615 24
  have BX8 := ext_alloc B8 (.cells #[.int .i64 (-2), .int .u64 18446744073709551615] 24)
  go_wp2_with fail
  refine (COm7.out _).mono ?_; rintro e w9 ⟨rfl, h9⟩
  have B9 : Below w.heap.size w w9 := ext_step BX8 h9
  have hA := hA.below h9
  have hB := hB.below h9
  have hC := hC.below h9
  have hD := hD.below h9
  go_wp2_with fail
  refine (CL.out _).mono ?_; rintro e w10 ⟨rfl, h10⟩
  have B10 : Below w.heap.size w w10 := ext_step B9 h10
  have hA := hA.below h10
  have hB := hB.below h10
  have hC := hC.below h10
  have hD := hD.below h10
  go_wp2_with fail
  refine (CP2.out _ (hp.below B10)).mono ?_; rintro e w11 ⟨rfl, h11⟩
  have B11 : Below w.heap.size w w11 := ext_step B10 h11
  have hA := hA.below h11
  have hB := hB.below h11
  have hC := hC.below h11
  have hD := hD.below h11
  have hA := hA.alloc (.cells #[.int .i64 0, .int .u64 0] 24)
  have hB := hB.alloc (.cells #[.int .i64 0, .int .u64 0] 24)
  have hC := hC.alloc (.cells #[.int .i64 0, .int .u64 0] 24)
  have hD := hD.alloc (.cells #[.int .i64 0, .int .u64 0] 24)
  have BX11 := ext_alloc B11 (.cells #[.int .i64 0, .int .u64 0] 24)
  obtain ⟨a0, a1, -, -⟩ := id hA
  obtain ⟨b0, b1, -, -⟩ := id hB
  obtain ⟨c0, c1, -, -⟩ := id hC
  obtain ⟨d0, d1, -, -⟩ := id hD
  go_wp2_with fail
  refine (CC.out _).mono ?_; rintro e w12 ⟨rfl, h12⟩
  have B12 : Below w.heap.size w w12 := ext_step BX11 h12
  have hA := hA.below h12
  clear a0 a1 b0 b1 c0 c1 d0 d1
  obtain ⟨a0, a1, -, -⟩ := id hA
  go_wp2_with fail
  refine (CX.out _ (hp.below B12)).mono ?_; rintro e w13 ⟨rfl, h13⟩
  have B13 : Below w.heap.size w w13 := ext_step B12 h13
  go_wp2_with fail
  refine (CT.out _).mono ?_; rintro e w14 ⟨rfl, h14⟩
  have B14 : Below w.heap.size w w14 := ext_step B13 h14
  go_wp2_with fail
  refine (CU.out _).mono ?_; rintro e w15 ⟨rfl, h15⟩
  have B15 : Below w.heap.size w w15 := ext_step (ext_alloc B14 _) h15
  go_wp2_with fail
  refine (COm2.out _).mono ?_; rintro e w16 ⟨rfl, h16⟩
  have B16 : Below w.heap.size w w16 := ext_step B15 h16
  clear a0 a1
  go_wp2_with fail
  go_ret
  exact ⟨rfl, B16⟩
end Go.Proofs.YtedojpblfmkjeaaDoor
