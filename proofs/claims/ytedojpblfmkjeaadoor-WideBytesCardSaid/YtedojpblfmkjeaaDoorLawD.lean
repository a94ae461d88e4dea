/- The walk of 'WideBytes': for all numbers and bytes it answers true. -/
import Derived.Test.YtedojpblfmkjeaaDoorAlive2
import Derived.Test.YtedojpblfmkjeaaDoorSameBytes
namespace Go.Proofs.YtedojpblfmkjeaaDoor
open Go.RowKit

/-- A row of bytes in the world at hand. -/
def Row8 (w : World) (v : Value) (zs : List Int) : Prop := Lst w w.heap.size .u8 v zs
theorem Row8.below {w w1 : World} {v : Value} {zs : List Int} (h : Row8 w v zs) (hb : Below w.heap.size w w1) : Row8 w1 v zs := (Lst.below h hb).more hb.size
theorem Row8.alloc {w : World} {v : Value} {zs : List Int} (h : Row8 w v zs) (o : Obj) : Row8 (w.alloc o) v zs := h.below (up1 w o)
theorem Row8.form {w : World} {v : Value} {zs : List Int} (h : Row8 w v zs) : ∃ A c, v = .slice A zs.length c := Lst.len h
theorem Row8.cells {w : World} {A : Option Addr} {n c : Nat} {zs : List Int} (h : Row8 w (.slice A n c) zs) (hn : 0 < zs.length) : ∃ ad, A = some ad ∧ ad.block < w.heap.size ∧ ∀ j (hj : j < zs.length), w.cell? (ad.add j) = some (.int .u8 zs[j]) := by
  obtain ⟨A', c', e, hc, hr⟩ := h
  injection e with e1 e2 e3
  subst e1
  exact hr hn

theorem Row8.room {w : World} {A : Option Addr} {n c : Nat} {zs : List Int} (h : Row8 w (.slice A n c) zs) (hn : zs.length = n) : n ≤ c := by
  obtain ⟨A', c', e, hc, hr⟩ := h
  injection e with e1 e2 e3
  omega
theorem add_zero (a : Addr) : a.add 0 = a := by simp [Addr.add]

set_option maxRecDepth 100000 in
set_option maxHeartbeats 2000000 in
theorem bytes_walk (a b : Int) (ha : Two a) (hb : Two b) (v : Value) (zs : List Int) (w : World) (hp : Pows w) (hl : Lst w w.heap.size .u8 v zs) (hz : ∀ z ∈ zs, 0 ≤ z ∧ z ≤ 255) :
    Calls Tryd.prog 6 #[.agg #[.int .i64 ((a) / 18446744073709551616), .int .u64 ((a) % 18446744073709551616)], .agg #[.int .i64 ((b) / 18446744073709551616), .int .u64 ((b) % 18446744073709551616)], v] w fun e w' => e = .returned (.bool true) ∧ Below w.heap.size w w' := by
  obtain ⟨A0, c0, rfl⟩ := Lst.len hl
  have C0 := Lib.hid alive2_any
  have CX := Lib.hid (bytesW_any a)
  have CY := Lib.hid (bytesW_any b)
  have CC := Lib.hid fun (v : Value) (W : World) (h : Row8 W v (bytesI a)) => copyBytes_any v (bytesI a) W h (by rw [bytesI_len]; decide)
  have CK : Hid (∀ (v : Value) (W : World), Row8 W v (bytesI a) → Calls Tryd.prog 32 #[v] W fun e w' => e = .returned (.tuple #[.agg #[.int .i64 ((a) / 18446744073709551616), .int .u64 ((a) % 18446744073709551616)], .bool true]) ∧ Below W.heap.size W w') := Lib.hid fun v W h => by
    have k := backW_raw v (bytesI a) W h (bytesI_len a) (bytesI_byte a)
    rw [bytesI_back ha] at k
    exact k
  have CM := Lib.hid (cmpW_any a b)
  have CB : Hid (zs.length = 16 → ∀ W : World, Row8 W (.slice A0 zs.length c0) zs → Calls Tryd.prog 32 #[.slice A0 zs.length c0] W fun e w' => e = .returned (.tuple #[.agg #[.int .i64 ((around (valB zs)) / 18446744073709551616), .int .u64 ((around (valB zs)) % 18446744073709551616)], .bool true]) ∧ Below W.heap.size W w') := Lib.hid fun hn W h => backW_raw _ zs W h hn hz
  have CO : Hid (zs.length ≠ 16 → ∀ W : World, Row8 W (.slice A0 zs.length c0) zs → Calls Tryd.prog 32 #[.slice A0 zs.length c0] W fun e w' => e = .returned (.tuple #[.agg #[.int .i64 0, .int .u64 0], .bool false]) ∧ Below W.heap.size W w') := Lib.hid fun hn W h => (backW_other _ zs W h hn).mono fun e w' ⟨he, hb⟩ => ⟨he.trans (by rfl), hb⟩
  have CE : Hid (zs.length = 16 → ∀ W : World, Calls Tryd.prog 31 #[.agg #[.int .i64 ((around (valB zs)) / 18446744073709551616), .int .u64 ((around (valB zs)) % 18446744073709551616)]] W (Copied 5 .u8 W zs)) := Lib.hid fun hn W => by
    have k := bytesW_any (around (valB zs)) W
    rw [back_bytesI hn hz] at k
    exact k
  have CS := Lib.hid fun (u : Value) (W : World) (h : Row8 W u zs) (k : Row8 W (.slice A0 zs.length c0) zs) (hn : zs.length = 16) => sameBytes_any u (.slice A0 zs.length c0) zs W h k (by omega)
  have hA := (AtP.new w (a / 18446744073709551616) (a % 18446744073709551616) 24).alloc (.cells #[.int .i64 (b / 18446744073709551616), .int .u64 (b % 18446744073709551616)] 24)
  have hB := AtP.new (w.alloc (.cells #[.int .i64 (a / 18446744073709551616), .int .u64 (a % 18446744073709551616)] 24)) (b / 18446744073709551616) (b % 18446744073709551616) 24
  rw [World.size_alloc] at hB
  have B0 := up2 w (.cells #[.int .i64 (a / 18446744073709551616), .int .u64 (a % 18446744073709551616)] 24) (.cells #[.int .i64 (b / 18446744073709551616), .int .u64 (b % 18446744073709551616)] 24)
  have hR := (Row8.alloc (show Row8 w (.slice A0 zs.length c0) zs from hl) (.cells #[.int .i64 (a / 18446744073709551616), .int .u64 (a % 18446744073709551616)] 24)).alloc (.cells #[.int .i64 (b / 18446744073709551616), .int .u64 (b % 18446744073709551616)] 24)
  go_enter Tryd.func6, Tryd.ntmps6
  go_wp2_with fail
  refine (C0.out _ (hp.below B0)).mono ?_; rintro e w1 ⟨rfl, h1⟩
  have B1 : Below w.heap.size w w1 := ext_step B0 h1
  replace hA := hA.below h1
  replace hB := hB.below h1
  replace hR := hR.below h1
  obtain ⟨hA0, hA1, -, -⟩ := id hA
  obtain ⟨hB0, hB1, -, -⟩ := id hB
  go_wp2_with fail
  refine (CX.out _).mono ?_; rintro e w2 ⟨v1, rfl, ho1, h2⟩
  have B2 : Below w.heap.size w w2 := ext_step B1 h2
  replace hA := hA.below h2
  replace hB := hB.below h2
  replace hR := hR.below h2
  clear hA0 hA1 hB0 hB1
  have hX : Row8 w2 v1 (bytesI a) := ho1.lst
  clear ho1
  obtain ⟨A1, c1, rfl⟩ := hX.form
  rw [bytesI_len] at hX ⊢
  obtain ⟨hA0, hA1, -, -⟩ := id hA
  obtain ⟨hB0, hB1, -, -⟩ := id hB
  go_wp2_with fail
  refine (CY.out _).mono ?_; rintro e w3 ⟨v2, rfl, ho2, h3⟩
  have B3 : Below w.heap.size w w3 := ext_step B2 h3
  replace hA := hA.below h3
  replace hB := hB.below h3
  replace hR := hR.below h3
  replace hX := hX.below h3
  clear hA0 hA1 hB0 hB1
  have hY : Row8 w3 v2 (bytesI b) := ho2.lst
  clear ho2
  obtain ⟨A2, c2, rfl⟩ := hY.form
  rw [bytesI_len] at hY ⊢
  go_wp2_with fail
  refine (CC.out _ _ hX).mono ?_; rintro e w4 ⟨v3, rfl, ho3, h4⟩
  have B4 : Below w.heap.size w w4 := ext_step B3 h4
  replace hA := hA.below h4
  replace hB := hB.below h4
  replace hR := hR.below h4
  replace hX := hX.below h4
  replace hY := hY.below h4
  have hZ : Row8 w4 v3 (bytesI a) := ho3.lst
  clear ho3
  go_wp2_with fail
  refine (CK.out _ _ hZ).mono ?_; rintro e w5 ⟨rfl, h5⟩
  have B5 : Below w.heap.size w w5 := ext_step B4 h5
  replace hA := hA.below h5
  replace hB := hB.below h5
  replace hR := hR.below h5
  replace hX := hX.below h5
  replace hY := hY.below h5
  clear hZ
  replace hA := hA.alloc (.cells #[.int .i64 (a / 18446744073709551616), .int .u64 (a % 18446744073709551616)] 24)
  replace hB := hB.alloc (.cells #[.int .i64 (a / 18446744073709551616), .int .u64 (a % 18446744073709551616)] 24)
  replace hR := hR.alloc (.cells #[.int .i64 (a / 18446744073709551616), .int .u64 (a % 18446744073709551616)] 24)
  replace hX := hX.alloc (.cells #[.int .i64 (a / 18446744073709551616), .int .u64 (a % 18446744073709551616)] 24)
  replace hY := hY.alloc (.cells #[.int .i64 (a / 18446744073709551616), .int .u64 (a % 18446744073709551616)] 24)
  have XB5 := ext_alloc B5 (.cells #[.int .i64 (a / 18446744073709551616), .int .u64 (a % 18446744073709551616)] 24)
  have hC := AtP.new w5 (a / 18446744073709551616) (a % 18446744073709551616) 24
  obtain ⟨hA0, hA1, -, -⟩ := id hA
  obtain ⟨hB0, hB1, -, -⟩ := id hB
  obtain ⟨hC0, hC1, -, -⟩ := id hC
  obtain ⟨ad1, rfl, hk1, hX0⟩ := hX.cells (by rw [bytesI_len]; decide)
  obtain ⟨ad2, rfl, hk2, hY0⟩ := hY.cells (by rw [bytesI_len]; decide)
  have hiff := bytesI_head ha
  have q0 := hX0 0 (by rw [bytesI_len]; decide)
  generalize (bytesI a)[0]'(by rw [bytesI_len]; decide) = x0 at *
  have hc16 : (16 : Nat) ≤ c1 := hX.room (by rw [bytesI_len])
  have hd16 : (16 : Nat) ≤ c2 := hY.room (by rw [bytesI_len])
  by_cases hs : a / 18446744073709551616 < 0
  · have h127 : 127 < x0 := hiff.2 hs
    go_upto_region 6 with fail
    clear hA0 hA1 hB0 hB1 hC0 hC1 hiff
    change Code.wp _ _ _ _ (w5.alloc (.cells #[.int .i64 (a / 18446744073709551616), .int .u64 (a % 18446744073709551616)] 24))
    generalize (w5.alloc (.cells #[.int .i64 (a / 18446744073709551616), .int .u64 (a % 18446744073709551616)] 24)) = W0 at *
    have q1 : W0.cell? ad1 = some (.int .u8 x0) := by rw [add_zero] at q0; exact q0
    go_region_held3 (fun w' => w'.cell? ⟨w.heap.size, 0, none⟩ = some (.int .i64 (a / 18446744073709551616)) ∧ w'.cell? ⟨w.heap.size, 1, none⟩ = some (.int .u64 (a % 18446744073709551616)) ∧ w'.cell? ⟨w5.heap.size, 0, none⟩ = some (.int .i64 (a / 18446744073709551616)) ∧ w'.cell? ⟨w5.heap.size, 1, none⟩ = some (.int .u64 (a % 18446744073709551616)) ∧ w'.cell? ad1 = some (.int .u8 x0))
      (exact ⟨hA.c0, hA.c1, hC.c0, hC.c1, q1⟩)
      (first | fail)
    replace hA : AtP W0.drew w.heap.size (a / 18446744073709551616) (a % 18446744073709551616) := hA.drew
    replace hB : AtP W0.drew (w.heap.size + 1) (b / 18446744073709551616) (b % 18446744073709551616) := hB.drew
    replace hX : Row8 W0.drew (.slice (some ad1) 16 c1) (bytesI a) := hX
    replace hY : Row8 W0.drew (.slice (some ad2) 16 c2) (bytesI b) := hY
    replace hR : Row8 W0.drew (.slice A0 zs.length c0) zs := hR
    have BX : Below w.heap.size w W0.drew := XB5.drew
    have HX0 : Hid (∀ j (hj : j < (bytesI a).length), W0.drew.cell? (ad1.add j) = some (.int .u8 (bytesI a)[j])) := Lib.hid hX0
    have HY0 : Hid (∀ j (hj : j < (bytesI b).length), W0.drew.cell? (ad2.add j) = some (.int .u8 (bytesI b)[j])) := Lib.hid hY0
    clear hX0 hY0 q0 q1 hC hk1 hk2 XB5 B0 h1 B1
    generalize W0.drew = W1 at *
    go_upto_block 0 with fail
    go_cut [11] (fun f wx => f = .int .i64 (ordI (valB (bytesI a)) (valB (bytesI b))) ∧ ∃ n, W1.drewN n = wx)
    case first =>
      go_wp2_with fail
      go_loopw [11, 12] (fun f i wr => ∃ k n : Nat, k ≤ 16 ∧ i = .int .i64 (k : Int) ∧ f = .int .i64 (ordI (valB ((bytesI a).take k)) (valB ((bytesI b).take k))) ∧ wr = W1.drewN n) (fun _ i _ => 16 - (intOf i).toNat)
      case atStart => exact ⟨0, 0, Nat.zero_le _, rfl, rfl, rfl⟩
      case round =>
        obtain ⟨k, n, hk, rfl, rfl, rfl⟩ := hrel
        by_cases hlt : k < 16
        · have hk16 : (k : Int) < 16 := by omega
          by_cases hf : ordI (valB ((bytesI a).take k)) (valB ((bytesI b).take k)) = 0
          · rw [hf]
            have xr := bytesI_byte a _ (List.getElem_mem (show k < (bytesI a).length by rw [bytesI_len]; exact hlt))
            have yr := bytesI_byte b _ (List.getElem_mem (show k < (bytesI b).length by rw [bytesI_len]; exact hlt))
            have HO : Hid (ordI (valB ((bytesI a).take (k + 1))) (valB ((bytesI b).take (k + 1))) = ordI ((bytesI a)[k]'(by rw [bytesI_len]; exact hlt)) ((bytesI b)[k]'(by rw [bytesI_len]; exact hlt))) := Lib.hid (by
              rw [valB_take (by rw [bytesI_len]; exact hlt), valB_take (by rw [bytesI_len]; exact hlt), ordI_more xr.1 xr.2 yr.1 yr.2, if_pos hf])
            have cx : (W1.drewN n).cell? (ad1.add k) = some (.int .u8 ((bytesI a)[k]'(by rw [bytesI_len]; exact hlt))) := HX0.out k (by rw [bytesI_len]; exact hlt)
            have cy : (W1.drewN n).cell? (ad2.add k) = some (.int .u8 ((bytesI b)[k]'(by rw [bytesI_len]; exact hlt))) := HY0.out k (by rw [bytesI_len]; exact hlt)
            have dx : W1.cell? (ad1.add k) = some (.int .u8 ((bytesI a)[k]'(by rw [bytesI_len]; exact hlt))) := cx
            have dy : W1.cell? (ad2.add k) = some (.int .u8 ((bytesI b)[k]'(by rw [bytesI_len]; exact hlt))) := cy
            generalize (bytesI a)[k]'(by rw [bytesI_len]; exact hlt) = xk at *
            generalize (bytesI b)[k]'(by rw [bytesI_len]; exact hlt) = yk at *
            clear hf xr yr
            rcases Int.lt_trichotomy xk yk with h | h | h
            · have h2 : ¬ yk < xk := by omega
              have HV : Hid (ordI xk yk = -1) := Lib.hid (ordI_lt h)
              go_wp2_with fail
              go_quiet (fail)
              go_wp2_with fail
              go_quiet (fail)
              go_wp2_with fail
              go_roundw
              case rel => exact ⟨k + 1, _, hlt, by go_num, by rw [HO.out, HV.out], rfl⟩
              case measure => simp [intOf]; omega
            · subst h
              have HV : Hid (ordI xk xk = 0) := Lib.hid (ordI_eq xk)
              go_wp2_with fail
              go_quiet (fail)
              go_wp2_with fail
              go_quiet (fail)
              go_wp2_with fail
              go_roundw
              case rel => exact ⟨k + 1, _, hlt, by go_num, by rw [HO.out, HV.out], rfl⟩
              case measure => simp [intOf]; omega
            · have h2 : ¬ xk < yk := by omega
              have HV : Hid (ordI xk yk = 1) := Lib.hid (ordI_gt h)
              go_wp2_with fail
              go_quiet (fail)
              go_wp2_with fail
              go_quiet (fail)
              go_wp2_with fail
              go_roundw
              case rel => exact ⟨k + 1, _, hlt, by go_num, by rw [HO.out, HV.out], rfl⟩
              case measure => simp [intOf]; omega
          · have HE : Hid (ordI (valB ((bytesI a).take k)) (valB ((bytesI b).take k)) = ordI (valB (bytesI a)) (valB (bytesI b))) := Lib.hid (by
              have h := ordB_more (bytesI_byte a) (bytesI_byte b) (by rw [bytesI_len, bytesI_len]) hf (16 - k) (by rw [bytesI_len]; omega)
              rw [show k + (16 - k) = 16 by omega, List.take_of_length_le (by rw [bytesI_len]; exact Nat.le_refl _), List.take_of_length_le (by rw [bytesI_len]; exact Nat.le_refl _)] at h
              exact h.symm)
            have hf2 : (ordI (valB ((bytesI a).take k)) (valB ((bytesI b).take k)) == 0) = false := by simpa using hf
            go_wp2_with fail
            go_meet
            exact ⟨by rw [HE.out], n, rfl⟩
        · obtain rfl : k = 16 := by omega
          have HE : Hid (ordI (valB ((bytesI a).take 16)) (valB ((bytesI b).take 16)) = ordI (valB (bytesI a)) (valB (bytesI b))) := Lib.hid (by
            rw [List.take_of_length_le (by rw [bytesI_len]; exact Nat.le_refl _), List.take_of_length_le (by rw [bytesI_len]; exact Nat.le_refl _)])
          have h16 : ¬ (((16 : Nat) : Int) < 16) := by omega
          go_wp2_with fail
          go_meet
          exact ⟨by rw [HE.out], n, rfl⟩
    case rest =>
      obtain ⟨rfl, n0, rfl⟩ := hcut
      replace hA : AtP (W1.drewN n0) w.heap.size (a / 18446744073709551616) (a % 18446744073709551616) := ⟨hA.c0, hA.c1, hA.f0, hA.f1⟩
      replace hB : AtP (W1.drewN n0) (w.heap.size + 1) (b / 18446744073709551616) (b % 18446744073709551616) := ⟨hB.c0, hB.c1, hB.f0, hB.f1⟩
      replace hR : Row8 (W1.drewN n0) (.slice A0 zs.length c0) zs := hR
      replace BX : Below w.heap.size w (W1.drewN n0) := below_drewN BX n0
      clear HX0 HY0 hX hY hc16 hd16
      generalize W1.drewN n0 = W2 at *
      by_cases ht : b / 18446744073709551616 < 0
      · have hbt : (decide (a / 18446744073709551616 < 0) == decide (b / 18446744073709551616 < 0)) = true := by rw [decide_eq_true hs, decide_eq_true ht]; rfl
        have he := bytesI_order ha hb ⟨fun _ => ht, fun _ => hs⟩
        rw [he]
        clear he
        obtain ⟨hA0, hA1, -, -⟩ := id hA
        obtain ⟨hB0, hB1, -, -⟩ := id hB
        go_wp2_with fail
        refine (CM.out _).mono ?_; rintro e w11 ⟨rfl, h11⟩
        have B11 : Below w.heap.size w w11 := ext_step BX h11
        replace hA := hA.below h11
        replace hB := hB.below h11
        replace hR := hR.below h11
        clear hA0 hA1 hB0 hB1
        by_cases hn : zs.length = 16
        · have hn2 : ((zs.length : Int) != 16) = false := by simp; omega
          replace hn := Lib.hid hn
          go_wp2_with fail
          refine ((CB.out hn.out) _ hR).mono ?_; rintro e w12 ⟨rfl, h12⟩
          have B12 : Below w.heap.size w w12 := ext_step B11 h12
          replace hA := hA.below h12
          replace hB := hB.below h12
          replace hR := hR.below h12
          replace hA := hA.alloc (.cells #[.int .i64 (around (valB zs) / 18446744073709551616), .int .u64 (around (valB zs) % 18446744073709551616)] 24)
          replace hB := hB.alloc (.cells #[.int .i64 (around (valB zs) / 18446744073709551616), .int .u64 (around (valB zs) % 18446744073709551616)] 24)
          replace hR := hR.alloc (.cells #[.int .i64 (around (valB zs) / 18446744073709551616), .int .u64 (around (valB zs) % 18446744073709551616)] 24)
          have XB12 := ext_alloc B12 (.cells #[.int .i64 (around (valB zs) / 18446744073709551616), .int .u64 (around (valB zs) % 18446744073709551616)] 24)
          have hD := AtP.new w12 (around (valB zs) / 18446744073709551616) (around (valB zs) % 18446744073709551616) 24
          obtain ⟨hD0, hD1, -, -⟩ := id hD
          go_wp2_with fail
          refine ((CE.out hn.out) _).mono ?_; rintro e w13 ⟨v5, rfl, ho5, h13⟩
          have B13 : Below w.heap.size w w13 := ext_step XB12 h13
          replace hA := hA.below h13
          replace hB := hB.below h13
          replace hR := hR.below h13
          replace hD := hD.below h13
          have hV : Row8 w13 v5 zs := ho5.lst
          clear ho5
          clear hD0 hD1
          go_wp2_with fail
          refine (CS.out v5 _ hV hR hn.out).mono ?_; rintro e wz ⟨rfl, nz, rfl⟩
          go_wp2_with fail
          go_ret
          exact ⟨rfl, below_drewN B13 nz⟩
        · have hn2 : ((zs.length : Int) != 16) = true := by simp; omega
          replace hn := Lib.hid hn
          go_wp2_with fail
          refine ((CO.out hn.out) _ hR).mono ?_; rintro e w12 ⟨rfl, h12⟩
          have B12 : Below w.heap.size w w12 := ext_step B11 h12
          replace hA := hA.below h12
          replace hB := hB.below h12
          replace hR := hR.below h12
          replace hA := hA.alloc (.cells #[.int .i64 (0), .int .u64 (0)] 24)
          replace hB := hB.alloc (.cells #[.int .i64 (0), .int .u64 (0)] 24)
          replace hR := hR.alloc (.cells #[.int .i64 (0), .int .u64 (0)] 24)
          have XB12 := ext_alloc B12 (.cells #[.int .i64 (0), .int .u64 (0)] 24)
          have hD := AtP.new w12 (0) (0) 24
          go_wp2_with fail
          go_ret
          exact ⟨rfl, XB12⟩
      · have hbt : (decide (a / 18446744073709551616 < 0) == decide (b / 18446744073709551616 < 0)) = false := by rw [decide_eq_true hs, decide_eq_false ht]; rfl
        obtain ⟨hA0, hA1, -, -⟩ := id hA
        obtain ⟨hB0, hB1, -, -⟩ := id hB
        by_cases hn : zs.length = 16
        · have hn2 : ((zs.length : Int) != 16) = false := by simp; omega
          replace hn := Lib.hid hn
          go_wp2_with fail
          refine ((CB.out hn.out) _ hR).mono ?_; rintro e w11 ⟨rfl, h11⟩
          have B11 : Below w.heap.size w w11 := ext_step BX h11
          replace hA := hA.below h11
          replace hB := hB.below h11
          replace hR := hR.below h11
          clear hA0 hA1 hB0 hB1
          replace hA := hA.alloc (.cells #[.int .i64 (around (valB zs) / 18446744073709551616), .int .u64 (around (valB zs) % 18446744073709551616)] 24)
          replace hB := hB.alloc (.cells #[.int .i64 (around (valB zs) / 18446744073709551616), .int .u64 (around (valB zs) % 18446744073709551616)] 24)
          replace hR := hR.alloc (.cells #[.int .i64 (around (valB zs) / 18446744073709551616), .int .u64 (around (valB zs) % 18446744073709551616)] 24)
          have XB11 := ext_alloc B11 (.cells #[.int .i64 (around (valB zs) / 18446744073709551616), .int .u64 (around (valB zs) % 18446744073709551616)] 24)
          have hD := AtP.new w11 (around (valB zs) / 18446744073709551616) (around (valB zs) % 18446744073709551616) 24
          obtain ⟨hD0, hD1, -, -⟩ := id hD
          go_wp2_with fail
          refine ((CE.out hn.out) _).mono ?_; rintro e w12 ⟨v5, rfl, ho5, h12⟩
          have B12 : Below w.heap.size w w12 := ext_step XB11 h12
          replace hA := hA.below h12
          replace hB := hB.below h12
          replace hR := hR.below h12
          replace hD := hD.below h12
          have hV : Row8 w12 v5 zs := ho5.lst
          clear ho5
          clear hD0 hD1
          go_wp2_with fail
          refine (CS.out v5 _ hV hR hn.out).mono ?_; rintro e wz ⟨rfl, nz, rfl⟩
          go_wp2_with fail
          go_ret
          exact ⟨rfl, below_drewN B12 nz⟩
        · have hn2 : ((zs.length : Int) != 16) = true := by simp; omega
          replace hn := Lib.hid hn
          go_wp2_with fail
          refine ((CO.out hn.out) _ hR).mono ?_; rintro e w11 ⟨rfl, h11⟩
          have B11 : Below w.heap.size w w11 := ext_step BX h11
          replace hA := hA.below h11
          replace hB := hB.below h11
          replace hR := hR.below h11
          clear hA0 hA1 hB0 hB1
          replace hA := hA.alloc (.cells #[.int .i64 (0), .int .u64 (0)] 24)
          replace hB := hB.alloc (.cells #[.int .i64 (0), .int .u64 (0)] 24)
          replace hR := hR.alloc (.cells #[.int .i64 (0), .int .u64 (0)] 24)
          have XB11 := ext_alloc B11 (.cells #[.int .i64 (0), .int .u64 (0)] 24)
          have hD := AtP.new w11 (0) (0) 24
          go_wp2_with fail
          go_ret
          exact ⟨rfl, XB11⟩

  · have h127 : ¬ 127 < x0 := fun k => hs (hiff.1 k)
    have hbx : (!decide (a / 18446744073709551616 < 0) == decide (127 < x0)) = false := by rw [decide_eq_false hs, decide_eq_false h127]; rfl
    go_upto_region 6 with fail
    clear hA0 hA1 hB0 hB1 hC0 hC1 hiff
    change Code.wp _ _ _ _ (w5.alloc (.cells #[.int .i64 (a / 18446744073709551616), .int .u64 (a % 18446744073709551616)] 24))
    generalize (w5.alloc (.cells #[.int .i64 (a / 18446744073709551616), .int .u64 (a % 18446744073709551616)] 24)) = W0 at *
    have q1 : W0.cell? ad1 = some (.int .u8 x0) := by rw [add_zero] at q0; exact q0
    go_region_held3 (fun w' => w'.cell? ⟨w.heap.size, 0, none⟩ = some (.int .i64 (a / 18446744073709551616)) ∧ w'.cell? ⟨w.heap.size, 1, none⟩ = some (.int .u64 (a % 18446744073709551616)) ∧ w'.cell? ⟨w5.heap.size, 0, none⟩ = some (.int .i64 (a / 18446744073709551616)) ∧ w'.cell? ⟨w5.heap.size, 1, none⟩ = some (.int .u64 (a % 18446744073709551616)) ∧ w'.cell? ad1 = some (.int .u8 x0))
      (exact ⟨hA.c0, hA.c1, hC.c0, hC.c1, q1⟩)
      (first | fail)
    replace hA : AtP W0.drew w.heap.size (a / 18446744073709551616) (a % 18446744073709551616) := hA.drew
    replace hB : AtP W0.drew (w.heap.size + 1) (b / 18446744073709551616) (b % 18446744073709551616) := hB.drew
    replace hX : Row8 W0.drew (.slice (some ad1) 16 c1) (bytesI a) := hX
    replace hY : Row8 W0.drew (.slice (some ad2) 16 c2) (bytesI b) := hY
    replace hR : Row8 W0.drew (.slice A0 zs.length c0) zs := hR
    have BX : Below w.heap.size w W0.drew := XB5.drew
    have HX0 : Hid (∀ j (hj : j < (bytesI a).length), W0.drew.cell? (ad1.add j) = some (.int .u8 (bytesI a)[j])) := Lib.hid hX0
    have HY0 : Hid (∀ j (hj : j < (bytesI b).length), W0.drew.cell? (ad2.add j) = some (.int .u8 (bytesI b)[j])) := Lib.hid hY0
    clear hX0 hY0 q0 q1 hC hk1 hk2 XB5 B0 h1 B1
    generalize W0.drew = W1 at *
    go_upto_block 0 with fail
    go_cut [11] (fun f wx => f = .int .i64 (ordI (valB (bytesI a)) (valB (bytesI b))) ∧ ∃ n, W1.drewN n = wx)
    case first =>
      go_wp2_with fail
      go_loopw [11, 12] (fun f i wr => ∃ k n : Nat, k ≤ 16 ∧ i = .int .i64 (k : Int) ∧ f = .int .i64 (ordI (valB ((bytesI a).take k)) (valB ((bytesI b).take k))) ∧ wr = W1.drewN n) (fun _ i _ => 16 - (intOf i).toNat)
      case atStart => exact ⟨0, 0, Nat.zero_le _, rfl, rfl, rfl⟩
      case round =>
        obtain ⟨k, n, hk, rfl, rfl, rfl⟩ := hrel
        by_cases hlt : k < 16
        · have hk16 : (k : Int) < 16 := by omega
          by_cases hf : ordI (valB ((bytesI a).take k)) (valB ((bytesI b).take k)) = 0
          · rw [hf]
            have xr := bytesI_byte a _ (List.getElem_mem (show k < (bytesI a).length by rw [bytesI_len]; exact hlt))
            have yr := bytesI_byte b _ (List.getElem_mem (show k < (bytesI b).length by rw [bytesI_len]; exact hlt))
            have HO : Hid (ordI (valB ((bytesI a).take (k + 1))) (valB ((bytesI b).take (k + 1))) = ordI ((bytesI a)[k]'(by rw [bytesI_len]; exact hlt)) ((bytesI b)[k]'(by rw [bytesI_len]; exact hlt))) := Lib.hid (by
              rw [valB_take (by rw [bytesI_len]; exact hlt), valB_take (by rw [bytesI_len]; exact hlt), ordI_more xr.1 xr.2 yr.1 yr.2, if_pos hf])
            have cx : (W1.drewN n).cell? (ad1.add k) = some (.int .u8 ((bytesI a)[k]'(by rw [bytesI_len]; exact hlt))) := HX0.out k (by rw [bytesI_len]; exact hlt)
            have cy : (W1.drewN n).cell? (ad2.add k) = some (.int .u8 ((bytesI b)[k]'(by rw [bytesI_len]; exact hlt))) := HY0.out k (by rw [bytesI_len]; exact hlt)
            have dx : W1.cell? (ad1.add k) = some (.int .u8 ((bytesI a)[k]'(by rw [bytesI_len]; exact hlt))) := cx
            have dy : W1.cell? (ad2.add k) = some (.int .u8 ((bytesI b)[k]'(by rw [bytesI_len]; exact hlt))) := cy
            generalize (bytesI a)[k]'(by rw [bytesI_len]; exact hlt) = xk at *
            generalize (bytesI b)[k]'(by rw [bytesI_len]; exact hlt) = yk at *
            clear hf xr yr
            rcases Int.lt_trichotomy xk yk with h | h | h
            · have h2 : ¬ yk < xk := by omega
              have HV : Hid (ordI xk yk = -1) := Lib.hid (ordI_lt h)
              go_wp2_with fail
              go_quiet (fail)
              go_wp2_with fail
              go_quiet (fail)
              go_wp2_with fail
              go_roundw
              case rel => exact ⟨k + 1, _, hlt, by go_num, by rw [HO.out, HV.out], rfl⟩
              case measure => simp [intOf]; omega
            · subst h
              have HV : Hid (ordI xk xk = 0) := Lib.hid (ordI_eq xk)
              go_wp2_with fail
              go_quiet (fail)
              go_wp2_with fail
              go_quiet (fail)
              go_wp2_with fail
              go_roundw
              case rel => exact ⟨k + 1, _, hlt, by go_num, by rw [HO.out, HV.out], rfl⟩
              case measure => simp [intOf]; omega
            · have h2 : ¬ xk < yk := by omega
              have HV : Hid (ordI xk yk = 1) := Lib.hid (ordI_gt h)
              go_wp2_with fail
              go_quiet (fail)
              go_wp2_with fail
              go_quiet (fail)
              go_wp2_with fail
              go_roundw
              case rel => exact ⟨k + 1, _, hlt, by go_num, by rw [HO.out, HV.out], rfl⟩
              case measure => simp [intOf]; omega
          · have HE : Hid (ordI (valB ((bytesI a).take k)) (valB ((bytesI b).take k)) = ordI (valB (bytesI a)) (valB (bytesI b))) := Lib.hid (by
              have h := ordB_more (bytesI_byte a) (bytesI_byte b) (by rw [bytesI_len, bytesI_len]) hf (16 - k) (by rw [bytesI_len]; omega)
              rw [show k + (16 - k) = 16 by omega, List.take_of_length_le (by rw [bytesI_len]; exact Nat.le_refl _), List.take_of_length_le (by rw [bytesI_len]; exact Nat.le_refl _)] at h
              exact h.symm)
            have hf2 : (ordI (valB ((bytesI a).take k)) (valB ((bytesI b).take k)) == 0) = false := by simpa using hf
            go_wp2_with fail
            go_meet
            exact ⟨by rw [HE.out], n, rfl⟩
        · obtain rfl : k = 16 := by omega
          have HE : Hid (ordI (valB ((bytesI a).take 16)) (valB ((bytesI b).take 16)) = ordI (valB (bytesI a)) (valB (bytesI b))) := Lib.hid (by
            rw [List.take_of_length_le (by rw [bytesI_len]; exact Nat.le_refl _), List.take_of_length_le (by rw [bytesI_len]; exact Nat.le_refl _)])
          have h16 : ¬ (((16 : Nat) : Int) < 16) := by omega
          go_wp2_with fail
          go_meet
          exact ⟨by rw [HE.out], n, rfl⟩
    case rest =>
      obtain ⟨rfl, n0, rfl⟩ := hcut
      replace hA : AtP (W1.drewN n0) w.heap.size (a / 18446744073709551616) (a % 18446744073709551616) := ⟨hA.c0, hA.c1, hA.f0, hA.f1⟩
      replace hB : AtP (W1.drewN n0) (w.heap.size + 1) (b / 18446744073709551616) (b % 18446744073709551616) := ⟨hB.c0, hB.c1, hB.f0, hB.f1⟩
      replace hR : Row8 (W1.drewN n0) (.slice A0 zs.length c0) zs := hR
      replace BX : Below w.heap.size w (W1.drewN n0) := below_drewN BX n0
      clear HX0 HY0 hX hY hc16 hd16
      generalize W1.drewN n0 = W2 at *
      by_cases ht : b / 18446744073709551616 < 0
      · have hbt : (decide (a / 18446744073709551616 < 0) == decide (b / 18446744073709551616 < 0)) = false := by rw [decide_eq_false (Int.not_lt.2 hs), decide_eq_true ht]; rfl
        obtain ⟨hA0, hA1, -, -⟩ := id hA
        obtain ⟨hB0, hB1, -, -⟩ := id hB
        by_cases hn : zs.length = 16
        · have hn2 : ((zs.length : Int) != 16) = false := by simp; omega
          replace hn := Lib.hid hn
          go_wp2_with fail
          refine ((CB.out hn.out) _ hR).mono ?_; rintro e w11 ⟨rfl, h11⟩
          have B11 : Below w.heap.size w w11 := ext_step BX h11
          replace hA := hA.below h11
          replace hB := hB.below h11
          replace hR := hR.below h11
          clear hA0 hA1 hB0 hB1
          replace hA := hA.alloc (.cells #[.int .i64 (around (valB zs) / 18446744073709551616), .int .u64 (around (valB zs) % 18446744073709551616)] 24)
          replace hB := hB.alloc (.cells #[.int .i64 (around (valB zs) / 18446744073709551616), .int .u64 (around (valB zs) % 18446744073709551616)] 24)
          replace hR := hR.alloc (.cells #[.int .i64 (around (valB zs) / 18446744073709551616), .int .u64 (around (valB zs) % 18446744073709551616)] 24)
          have XB11 := ext_alloc B11 (.cells #[.int .i64 (around (valB zs) / 18446744073709551616), .int .u64 (around (valB zs) % 18446744073709551616)] 24)
          have hD := AtP.new w11 (around (valB zs) / 18446744073709551616) (around (valB zs) % 18446744073709551616) 24
          obtain ⟨hD0, hD1, -, -⟩ := id hD
          go_wp2_with fail
          refine ((CE.out hn.out) _).mono ?_; rintro e w12 ⟨v5, rfl, ho5, h12⟩
          have B12 : Below w.heap.size w w12 := ext_step XB11 h12
          replace hA := hA.below h12
          replace hB := hB.below h12
          replace hR := hR.below h12
          replace hD := hD.below h12
          have hV : Row8 w12 v5 zs := ho5.lst
          clear ho5
          clear hD0 hD1
          go_wp2_with fail
          refine (CS.out v5 _ hV hR hn.out).mono ?_; rintro e wz ⟨rfl, nz, rfl⟩
          go_wp2_with fail
          go_ret
          exact ⟨rfl, below_drewN B12 nz⟩
        · have hn2 : ((zs.length : Int) != 16) = true := by simp; omega
          replace hn := Lib.hid hn
          go_wp2_with fail
          refine ((CO.out hn.out) _ hR).mono ?_; rintro e w11 ⟨rfl, h11⟩
          have B11 : Below w.heap.size w w11 := ext_step BX h11
          replace hA := hA.below h11
          replace hB := hB.below h11
          replace hR := hR.below h11
          clear hA0 hA1 hB0 hB1
          replace hA := hA.alloc (.cells #[.int .i64 (0), .int .u64 (0)] 24)
          replace hB := hB.alloc (.cells #[.int .i64 (0), .int .u64 (0)] 24)
          replace hR := hR.alloc (.cells #[.int .i64 (0), .int .u64 (0)] 24)
          have XB11 := ext_alloc B11 (.cells #[.int .i64 (0), .int .u64 (0)] 24)
          have hD := AtP.new w11 (0) (0) 24
          go_wp2_with fail
          go_ret
          exact ⟨rfl, XB11⟩
      · have hbt : (decide (a / 18446744073709551616 < 0) == decide (b / 18446744073709551616 < 0)) = true := by rw [decide_eq_false (Int.not_lt.2 hs), decide_eq_false ht]; rfl
        have he := bytesI_order ha hb ⟨fun k => absurd k (Int.not_lt.2 hs), fun k => absurd k ht⟩
        rw [he]
        clear he
        obtain ⟨hA0, hA1, -, -⟩ := id hA
        obtain ⟨hB0, hB1, -, -⟩ := id hB
        go_wp2_with fail
        refine (CM.out _).mono ?_; rintro e w11 ⟨rfl, h11⟩
        have B11 : Below w.heap.size w w11 := ext_step BX h11
        replace hA := hA.below h11
        replace hB := hB.below h11
        replace hR := hR.below h11
        clear hA0 hA1 hB0 hB1
        by_cases hn : zs.length = 16
        · have hn2 : ((zs.length : Int) != 16) = false := by simp; omega
          replace hn := Lib.hid hn
          go_wp2_with fail
          refine ((CB.out hn.out) _ hR).mono ?_; rintro e w12 ⟨rfl, h12⟩
          have B12 : Below w.heap.size w w12 := ext_step B11 h12
          replace hA := hA.below h12
          replace hB := hB.below h12
          replace hR := hR.below h12
          replace hA := hA.alloc (.cells #[.int .i64 (around (valB zs) / 18446744073709551616), .int .u64 (around (valB zs) % 18446744073709551616)] 24)
          replace hB := hB.alloc (.cells #[.int .i64 (around (valB zs) / 18446744073709551616), .int .u64 (around (valB zs) % 18446744073709551616)] 24)
          replace hR := hR.alloc (.cells #[.int .i64 (around (valB zs) / 18446744073709551616), .int .u64 (around (valB zs) % 18446744073709551616)] 24)
          have XB12 := ext_alloc B12 (.cells #[.int .i64 (around (valB zs) / 18446744073709551616), .int .u64 (around (valB zs) % 18446744073709551616)] 24)
          have hD := AtP.new w12 (around (valB zs) / 18446744073709551616) (around (valB zs) % 18446744073709551616) 24
          obtain ⟨hD0, hD1, -, -⟩ := id hD
          go_wp2_with fail
          refine ((CE.out hn.out) _).mono ?_; rintro e w13 ⟨v5, rfl, ho5, h13⟩
          have B13 : Below w.heap.size w w13 := ext_step XB12 h13
          replace hA := hA.below h13
          replace hB := hB.below h13
          replace hR := hR.below h13
          replace hD := hD.below h13
          have hV : Row8 w13 v5 zs := ho5.lst
          clear ho5
          clear hD0 hD1
          go_wp2_with fail
          refine (CS.out v5 _ hV hR hn.out).mono ?_; rintro e wz ⟨rfl, nz, rfl⟩
          go_wp2_with fail
          go_ret
          exact ⟨rfl, below_drewN B13 nz⟩
        · have hn2 : ((zs.length : Int) != 16) = true := by simp; omega
          replace hn := Lib.hid hn
          go_wp2_with fail
          refine ((CO.out hn.out) _ hR).mono ?_; rintro e w12 ⟨rfl, h12⟩
          have B12 : Below w.heap.size w w12 := ext_step B11 h12
          replace hA := hA.below h12
          replace hB := hB.below h12
          replace hR := hR.below h12
          replace hA := hA.alloc (.cells #[.int .i64 (0), .int .u64 (0)] 24)
          replace hB := hB.alloc (.cells #[.int .i64 (0), .int .u64 (0)] 24)
          replace hR := hR.alloc (.cells #[.int .i64 (0), .int .u64 (0)] 24)
          have XB12 := ext_alloc B12 (.cells #[.int .i64 (0), .int .u64 (0)] 24)
          have hD := AtP.new w12 (0) (0) 24
          go_wp2_with fail
          go_ret
          exact ⟨rfl, XB12⟩

end Go.Proofs.YtedojpblfmkjeaaDoor
