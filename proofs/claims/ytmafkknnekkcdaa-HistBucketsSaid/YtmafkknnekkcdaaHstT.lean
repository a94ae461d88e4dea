/- Package hist on the landed code: Bucket, Bounds, valid, Of, Total, walked. -/
import Derived.Test.YtmafkknnekkcdaaHstK
import Derived.Test.YtmafkknnekkcdaaHstS
import Derived.Test.YtmafkknnekkcdaaSumW
import Derived.Test.YtmafkknnekkcdaaShelf
import Derived.Lib.MinMax
namespace Go.Proofs.Ytmafkknnekkcdaa
open Go.RowKit

/-! Bucket -/
theorem digN_len : ∀ (k n : Nat), n < 2 ^ k → k ≤ 63 → Lib.bitLen n = digN n
  | 0, n, h, _ => by
    obtain rfl : n = 0 := by simpa using h
    rfl
  | k + 1, n, h, hk => by
    rcases Nat.eq_zero_or_pos n with h0 | h0
    · subst h0; rfl
    · have hlt : n < 2 ^ 64 := Nat.lt_of_lt_of_le h (Nat.pow_le_pow_right (by decide) (by omega))
      rw [Lib.bitLen_half n (by omega) hlt, digN_half h0, digN_len k (n / 2) (by rw [Nat.pow_succ] at h; omega) (by omega)]
      omega

theorem ret_bktI {v i : Int} (h : i = ((bktN v : Nat) : Int)) : Ending.returned (.int .i64 i) = .returned (.int .i64 ((bktN v : Nat) : Int)) := by rw [h]

set_option maxRecDepth 100000 in
set_option maxHeartbeats 1000000 in
theorem hBucket_any (v : Int) (w : World) (hv : Fits v) : Calls Try.prog 9 #[.int .i64 v] w fun e w' => e = .returned (.int .i64 ((bktN v : Nat) : Int)) ∧ Below w.heap.size w w' := by
  by_cases h : v < 0
  · have HE := Lib.hid (bktN_neg h)
    go_enter Try.func9, Try.ntmps9
    go_wp2_with fail
    go_ret
    exact ⟨by rw [HE.out]; rfl, Below.refl _ _⟩
  · obtain ⟨n, rfl⟩ := Int.eq_ofNat_of_zero_le (show 0 ≤ v by omega)
    have hn : n < 2 ^ 63 := by have : (2 : Nat) ^ 63 = 9223372036854775808 := by decide
                               unfold Fits at hv; omega
    have hn2 : n ≤ 9223372036854775807 := by unfold Fits at hv; omega
    by_cases h0 : n = 0
    · subst h0
      have HE : Hid (bktN 0 = 1) := Lib.hid rfl
      go_enter Try.func9, Try.ntmps9
      go_wp2_with fail
      go_ret
      exact ⟨by rw [HE.out]; rfl, Below.refl _ _⟩
    · have CL := Lib.hid fun W => Try.bits_Len64 (n : Int) W (by omega) (by omega)
      have hd := digN_le hn
      have HE : Hid (bktN (n : Int) = 1 + digN n) := Lib.hid (bktN_pos h)
      have HD : Hid (Lib.bitLen ((n : Int)).toNat = digN n) := Lib.hid (digN_len 63 n hn (Nat.le_refl _))
      have hnz : ((n : Int) = 0) = False := eq_false (by omega)
      have e0 : ((n : Int) == 0) = false := by simp [h0]
      rw [HD.out] at CL
      clear h hv hn
      generalize digN n = d at *
      go_enter Try.func9, Try.ntmps9
      go_wp2_with fail
      refine (CL.out _).mono ?_; rintro e w1 ⟨rfl, rfl⟩
      go_wp2_with fail
      go_ret
      exact ⟨ret_bktI (by rw [HE.out]; omega), Below.refl _ _⟩

/-! Bounds -/
set_option maxRecDepth 100000 in
set_option maxHeartbeats 400000 in
theorem hNew_any (a b : Int) (w : World) (hr : a ≤ b) :
    Calls Try.prog 29 #[.int .i64 a, .int .i64 b] w fun e w' => e = .returned (.tuple #[.agg #[.int .i64 a, .int .i64 b], .bool true]) ∧ Below w.heap.size w w' := by
  have CR := Lib.hid (hRight_any a b)
  have hR := (At2.new w (.int .i64 0) (.int .i64 0) 25).alloc (.cells #[.int .i64 a, .int .i64 b] 25)
  have hG := At2.new (w.alloc (.cells #[.int .i64 0, .int .i64 0] 25)) (.int .i64 a) (.int .i64 b) 25
  rw [World.size_alloc] at hG
  have B0 := grew2 w (.cells #[.int .i64 0, .int .i64 0] 25) (.cells #[.int .i64 a, .int .i64 b] 25)
  have e1 : decide (a ≤ b) = true := decide_eq_true hr
  clear hr
  go_enter Try.func29, Try.ntmps29
  go_wp2_with fail
  refine (CR.out _).mono ?_; rintro e w1 ⟨rfl, h1⟩
  replace hR := hR.below h1
  replace hG := hG.below h1
  have HB1 := Lib.hid (ext_step B0 h1)
  obtain ⟨r0, r1, r2, r3⟩ := id hR
  obtain ⟨g0, g1, -, -⟩ := id hG
  go_wp2_with fail
  exact bodyPost_ret (v := .tuple #[.agg #[.int .i64 a, .int .i64 b], .bool true]) (by simp [results, Try.results29, go_sem, r0, r1]) rfl ⟨rfl, ext_put (ext_put HB1.out (Nat.le_refl _) _) (Nat.le_refl _) _⟩

set_option maxRecDepth 100000 in
set_option maxHeartbeats 1000000 in
theorem hBounds_out (b : Int) (w : World) (ho : b < 0 ∨ 64 < b) : Calls Try.prog 11 #[.int .i64 b] w fun e w' => e = .returned (.tuple #[.agg #[.int .i64 0, .int .i64 0], .bool false]) ∧ Below w.heap.size w w' := by
  have hR := At2.new w (.int .i64 0) (.int .i64 0) 25
  have B0 := grew1 w (.cells #[.int .i64 0, .int .i64 0] 25)
  obtain ⟨r0, r1, r2, r3⟩ := id hR
  rcases ho with h | h
  · go_enter Try.func11, Try.ntmps11
    go_wp2_with fail
    exact bodyPost_ret (v := .tuple #[.agg #[.int .i64 0, .int .i64 0], .bool false]) (by simp [results, Try.results11, go_sem, r0, r1]) rfl ⟨rfl, B0⟩
  · have h0 : ¬ b < 0 := by omega
    have h1 : 65 ≤ b := by omega
    go_enter Try.func11, Try.ntmps11
    go_wp2_with fail
    exact bodyPost_ret (v := .tuple #[.agg #[.int .i64 0, .int .i64 0], .bool false]) (by simp [results, Try.results11, go_sem, r0, r1]) rfl ⟨rfl, B0⟩

/-- One power of two in two's complement. -/
theorem pow_add (k : Nat) : ((2 ^ (k + 1) : Nat) : Int) = ((2 ^ k : Nat) : Int) + ((2 ^ k : Nat) : Int) := by rw [Nat.pow_succ]; omega
theorem pow_bd {k : Nat} (hk : k ≤ 62) : 1 ≤ ((2 ^ k : Nat) : Int) ∧ ((2 ^ k : Nat) : Int) ≤ 4611686018427387904 := by
  have h1 := Nat.two_pow_pos k
  have h2 : 2 ^ k ≤ 2 ^ 62 := Nat.pow_le_pow_right (by decide) hk
  have h3 : (2 : Nat) ^ 62 = 4611686018427387904 := by decide
  omega
theorem bnd_two (k : Nat) : bndI (k + 2) = (((2 ^ k : Nat) : Int), ((2 ^ k : Nat) : Int) + (((2 ^ k : Nat) : Int) - 1)) := by
  unfold bndI
  rw [if_neg (by omega), if_neg (by omega), show k + 2 - 2 = k by omega, show k + 2 - 1 = k + 1 by omega, pow_add]
  congr 1
  omega

set_option maxRecDepth 100000 in
set_option maxHeartbeats 2000000 in
theorem hBounds_in (b : Nat) (w : World) (hb : b ≤ 64) : Calls Try.prog 11 #[.int .i64 b] w fun e w' => e = .returned (.tuple #[.agg #[.int .i64 (bndI b).1, .int .i64 (bndI b).2], .bool true]) ∧ Below w.heap.size w w' := by
  have hR := At2.new w (.int .i64 0) (.int .i64 0) 25
  have B0 := grew1 w (.cells #[.int .i64 0, .int .i64 0] 25)
  rcases (show b = 0 ∨ b = 1 ∨ ∃ k, b = k + 2 from by
    rcases b with _ | _ | k
    · exact Or.inl rfl
    · exact Or.inr (Or.inl rfl)
    · exact Or.inr (Or.inr ⟨k, rfl⟩)) with rfl | rfl | ⟨k, rfl⟩
  · have CN := Lib.hid fun W => hNew_any (-9223372036854775808) (-1) W (by decide)
    rw [show bndI 0 = (-9223372036854775808, -1) from rfl]
    go_enter Try.func11, Try.ntmps11
    go_wp2_with fail
    refine (CN.out _).mono ?_; rintro e w1 ⟨rfl, h1⟩
    replace hR := hR.below h1
    have HB1 := Lib.hid (ext_step B0 h1)
    obtain ⟨r0, r1, r2, r3⟩ := id hR
    go_wp2_with fail
    exact bodyPost_ret (v := .tuple #[.agg #[.int .i64 (-9223372036854775808), .int .i64 (-1)], .bool true]) (by simp [results, Try.results11, go_sem, r0, r1]) rfl ⟨rfl, ext_put (ext_put HB1.out (Nat.le_refl _) _) (Nat.le_refl _) _⟩
  · have CN := Lib.hid fun W => hNew_any 0 0 W (by decide)
    rw [show bndI 1 = (0, 0) from rfl]
    go_enter Try.func11, Try.ntmps11
    go_wp2_with fail
    refine (CN.out _).mono ?_; rintro e w1 ⟨rfl, h1⟩
    replace hR := hR.below h1
    have HB1 := Lib.hid (ext_step B0 h1)
    obtain ⟨r0, r1, r2, r3⟩ := id hR
    go_wp2_with fail
    exact bodyPost_ret (v := .tuple #[.agg #[.int .i64 0, .int .i64 0], .bool true]) (by simp [results, Try.results11, go_sem, r0, r1]) rfl ⟨rfl, ext_put (ext_put HB1.out (Nat.le_refl _) _) (Nat.le_refl _) _⟩
  · obtain ⟨p1, p2⟩ := pow_bd (k := k) (by omega)
    have hk : k ≤ 62 := by omega
    have e2 : (2 : Int) ^ k = ((2 ^ k : Nat) : Int) := by simp
    rw [bnd_two]
    have CN : Hid (∀ W, Calls Try.prog 29 #[.int .i64 (wrap64 (2 ^ k)), .int .i64 (wrap64 (wrap64 (2 ^ k) + wrap64 (wrap64 (2 ^ k) - 1)))] W fun e w' => e = .returned (.tuple #[.agg #[.int .i64 ((2 ^ k : Nat) : Int), .int .i64 (((2 ^ k : Nat) : Int) + (((2 ^ k : Nat) : Int) - 1))], .bool true]) ∧ Below W.heap.size W w') := Lib.hid fun W => by
      rw [e2]
      generalize ((2 ^ k : Nat) : Int) = p at *
      rw [show wrap64 p = p by unfold wrap64; omega, show wrap64 (p - 1) = p - 1 by unfold wrap64; omega, show wrap64 (p + (p - 1)) = p + (p - 1) by unfold wrap64; omega]
      exact hNew_any p (p + (p - 1)) W (by omega)
    generalize ((2 ^ k : Nat) : Int) = p at *
    clear e2
    go_enter Try.func11, Try.ntmps11
    go_wp2_with fail
    refine (CN.out _).mono ?_; rintro e w1 ⟨rfl, h1⟩
    replace hR := hR.below h1
    have HB1 := Lib.hid (ext_step B0 h1)
    obtain ⟨r0, r1, r2, r3⟩ := id hR
    go_wp2_with fail
    exact bodyPost_ret (v := .tuple #[.agg #[.int .i64 p, .int .i64 (p + (p - 1))], .bool true]) (by simp [results, Try.results11, go_sem, r0, r1]) rfl ⟨rfl, ext_put (ext_put HB1.out (Nat.le_refl _) _) (Nat.le_refl _) _⟩

theorem long_parts : ∃ i0, Try.prog.info? 2 = some i0 ∧ i0.size = 1 := by
  have h : (Try.prog.info? 2).map (fun i => i.size) = some 1 := by kernel_rfl
  cases e : Try.prog.info? 2 with
  | none => rw [e] at h; cases h
  | some i0 => rw [e] at h; simp only [Option.map_some, Option.some.injEq] at h; exact ⟨i0, rfl, h⟩
theorem index_row (hs : List Int) (hl : hs.length = 65) (k : Nat) (hk : k < 65) (z : Int) (hz : hs[k]'(by omega) = z) (w : World) : (Instr.index 33 (.agg ((hs.map (Value.int .i64)).toArray)) (.int .i64 (k : Int))).run Try.prog w = .ok (.int .i64 z) w := by
  obtain ⟨i0, hi, hs0⟩ := long_parts
  have h1 : (0 : Int) ≤ (k : Int) ∧ (k : Int) < ((65 : Nat) : Int) := by omega
  have h2 : k < hs.length := by omega
  simp [Instr.index, run_underlying Try.underlying33, run_underlying Try.underlying2, asIntOf, h1, part, isAgg, sizeOf, typeInfo, hi, hs0, h2, hz, go_sem]
  intro h; omega

/-! valid -/
theorem noneg_of {zs : List Int} (h : ∀ j (hj : j < zs.length), 0 ≤ zs[j]) : nonegB zs = true := by
  unfold nonegB
  rw [List.all_eq_true]
  intro z hz
  obtain ⟨j, hj, rfl⟩ := List.getElem_of_mem hz
  exact decide_eq_true (h j hj)

set_option maxRecDepth 100000 in
set_option maxHeartbeats 1000000 in
theorem min_any (v : Value) (zs : List Int) (w : World) (hl : Lst w w.heap.size .i64 v zs) (h0 : 0 < zs.length) (hn : zs.length ≤ 1000000) :
    Calls Try.prog 49 #[v] w fun e w' => ∃ m : Int, e = .returned (.int .i64 m) ∧ decide (0 ≤ m) = nonegB zs ∧ w = w' := by
  obtain ⟨A, c, rfl, hc, hr⟩ := hl
  obtain ⟨ad, rfl, hb, hcell⟩ := hr h0
  have hc0 := hcell 0 h0
  have ha0 : ad.add 0 = ad := by simp [Addr.add]
  rw [ha0] at hc0
  have HC := Lib.hid hcell
  have H0 : Hid (0 ≤ zs[0] ↔ ∀ j (h : j < zs.length), j < 1 → 0 ≤ zs[j]) := Lib.hid ⟨fun h j hj h1 => by
    obtain rfl : j = 0 := by omega
    exact h, fun h => h 0 h0 (by omega)⟩
  have l1 : ¬ ((zs.length : Nat) : Int) < 1 := by omega
  clear hcell hr
  generalize zs[0] = z0 at *
  go_enter Try.func49, Try.ntmps49
  go_wp2_with fail
  clear hc0
  go_loop [3, 4] (fun m i => ∃ (k : Nat) (x : Int), 0 < k ∧ k ≤ zs.length ∧ m = .int .i64 x ∧ i = .int .i64 k ∧ Hid (0 ≤ x ↔ ∀ j (h : j < zs.length), j < k → 0 ≤ zs[j])) (fun _ i => zs.length - (intOf i).toNat)
  case atStart => exact ⟨1, z0, by omega, by omega, rfl, rfl, H0⟩
  case round =>
    clear H0
    obtain ⟨k, x, k0, hk, rfl, rfl, hx⟩ := hrel
    by_cases hlt : k < zs.length
    · have c1 := HC.out k hlt
      have hx' : Hid (0 ≤ min x zs[k] ↔ ∀ j (h : j < zs.length), j < k + 1 → 0 ≤ zs[j]) := Lib.hid ⟨fun h j hj hjk => by
        by_cases e : j = k
        · subst e; omega
        · exact hx.out.1 (by omega) j hj (by omega), fun h => by
        have h1 := hx.out.2 fun j hj hjk => h j hj (by omega)
        have h2 := h k hlt (by omega)
        omega⟩
      have i0 : (0 : Int) ≤ (k : Int) := by omega
      have i1 : (k : Int) < (zs.length : Int) := by omega
      clear hx
      generalize zs[k] = z at *
      go_wp2_with fail
      go_round
      case rel => exact ⟨k + 1, min x z, by omega, hlt, rfl, by go_num, hx'⟩
      case measure => simp [intOf]; omega
    · obtain rfl : k = zs.length := by omega
      have HE : Hid (decide (0 ≤ x) = nonegB zs) := Lib.hid (by
        by_cases h : 0 ≤ x
        · rw [decide_eq_true h, noneg_of fun j hj => hx.out.1 h j hj hj]
        · rw [decide_eq_false h]
          cases hg : nonegB zs with
          | false => rfl
          | true => exact absurd (hx.out.2 fun j hj _ => noneg_at hg hj) h)
      clear hx
      go_wp2_with fail
      go_ret
      exact ⟨_, rfl, HE.out, rfl⟩

set_option maxRecDepth 100000 in
set_option maxHeartbeats 1000000 in
theorem hValid_any (hs : List Int) (w : World) (hl : hs.length = 65) : Calls Try.prog 30 #[rowV hs] w fun e w' => e = .returned (.bool (nonegB hs)) ∧ Below w.heap.size w w' := by
  have hB := below_new w (.cells ((hs.map (Value.int .i64)).toArray) 33)
  have CM := Lib.hid fun W (h : Lst W W.heap.size .i64 (.slice (some ⟨w.heap.size, 0, none⟩) 65 65) hs) => min_any _ hs W h (by omega) (by omega)
  have HL := Lib.hid (Lst.fresh w hs 33 w.heap.size (Lib.hid rfl))
  rw [hl] at HL
  have HI := Lib.hid (infoHs hs hl)
  go_enter Try.func30, Try.ntmps30
  go_wp2_with fail
  refine (CM.out _ HL.out).mono ?_; rintro e w1 ⟨m, rfl, hm, rfl⟩
  go_wp2_with fail
  go_ret
  exact ⟨by rw [← hm]; rfl, hB⟩

/-! Total -/
set_option maxRecDepth 100000 in
set_option maxHeartbeats 1000000 in
theorem hTotal_any (hs : List Int) (w : World) (hl : hs.length = 65) (hf : ∀ z ∈ hs, Fits z) : Calls Try.prog 23 #[rowV hs] w fun e w' => e = .returned (.agg #[.int .i64 ((hs.sum) / 18446744073709551616), .int .u64 ((hs.sum) % 18446744073709551616)]) ∧ Below w.heap.size w w' := by
  have hB := (below_new w (.cells ((hs.map (Value.int .i64)).toArray) 33)).alloc (by simp) (.cells #[.int .i64 0, .int .u64 0] 47)
  have HL := Lib.hid ((Lst.fresh w hs 33 w.heap.size (Lib.hid rfl)).below (below_new _ (.cells #[.int .i64 0, .int .u64 0] 47)) |>.more (below_new _ (.cells #[.int .i64 0, .int .u64 0] 47)).size)
  rw [hl] at HL
  have hA := AtP.new (w.alloc (.cells ((hs.map (Value.int .i64)).toArray) 33)) 0 0 47
  rw [World.size_alloc] at hA
  have CS := Lib.hid fun W (h : Lst W W.heap.size .i64 (.slice (some ⟨w.heap.size, 0, none⟩) 65 65) hs) => sumW_any _ hs W h hf (by omega)
  go_enter Try.func23, Try.ntmps23
  go_wp2_with fail
  refine (CS.out _ HL.out).mono ?_; rintro e w1 ⟨rfl, h⟩
  replace hB := ext_step hB h
  replace hA := hA.below h
  obtain ⟨c0, c1, f0, f1⟩ := id hA
  go_wp2_with fail
  exact bodyPost_ret (v := .agg #[.int .i64 ((hs.sum) / 18446744073709551616), .int .u64 ((hs.sum) % 18446744073709551616)]) (by simp [results, Try.results23, go_sem, c0, c1]) rfl ⟨rfl, ext_put (ext_put hB (by simp) _) (by simp) _⟩
end Go.Proofs.Ytmafkknnekkcdaa
