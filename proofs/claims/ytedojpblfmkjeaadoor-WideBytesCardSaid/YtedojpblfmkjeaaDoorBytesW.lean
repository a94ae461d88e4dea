/- What wide.Bytes and wide.Back answer: sixteen bytes in two's complement, the highest first, and the number of sixteen bytes. -/
import Derived.Test.YtedojpblfmkjeaaDoorAtW
import Derived.Test.YtedojpblfmkjeaaDoorCopyBytes
import Derived.Deep.RegionWith
namespace Go.Proofs.YtedojpblfmkjeaaDoor
open Go.RowKit

/-- A row of bytes of the call's own, at its block. -/
def RowAt (w : World) (g : Nat) (zs : List Int) : Prop := w.ownsRow g 5 1 (.slice (some ⟨g, 0, none⟩) zs.length zs.length) zs.length (zs.map (Value.int .u8))
theorem RowAt.cell {w : World} {g : Nat} {zs : List Int} (h : RowAt w g zs) {j : Nat} (hj : j < zs.length) : w.cell? ⟨g, j, none⟩ = some (.int .u8 zs[j]) := by
  rw [World.ownsRow.cellAt h j (by omega)]; simp [hj]
theorem RowAt.free {w : World} {g : Nat} {zs : List Int} (h : RowAt w g zs) (j : Nat) : w.frozen? ⟨g, j, none⟩ = false := World.ownsRow.frozenAt h j
theorem RowAt.set_ {w : World} {g : Nat} {zs : List Int} (h : RowAt w g zs) (j : Nat) (d : Int) : RowAt (w.setCell ⟨g, j, none⟩ (.int .u8 d)) g (zs.set j d) := by
  have := (World.ownsRow.stored h j (.int .u8 d)).1
  unfold RowAt
  rw [List.length_set, List.map_set]; exact this
theorem RowAt.made {w : World} {g n : Nat} (h : w.ownsRow g 5 1 (.slice (some ⟨g, 0, none⟩) n n) n (madeCells (Value.int .u8 0).cells (n * 1)).toList) : RowAt w g (List.replicate n 0) := by
  have e : (madeCells (Value.int .u8 0).cells (n * 1)).toList = (List.replicate n (0 : Int)).map (Value.int .u8) := by
    rw [Nat.mul_one, List.map_replicate]; exact toList_madeCells_one _ _
  rw [e] at h
  unfold RowAt
  rw [List.length_replicate]; exact h

theorem RowAt.own {w : World} {g B n : Nat} {zs : List Int} (h : RowAt w g zs) (hB : B ≤ g) (hn : zs.length = n) : Owned 5 .u8 w B (.slice (some ⟨g, 0, none⟩) n n) zs := by
  subst hn
  obtain ⟨hl, hr⟩ := h
  refine ⟨hl, ?_⟩
  rcases hr with h0 | ⟨g', cap, cur, e, hb, hx⟩
  · exact Or.inl h0
  · exact Or.inr ⟨g', cap, cur, e, Nat.le_trans hB hb, hx⟩
/-- The number of a row of bytes, the highest first. -/
def valB (zs : List Int) : Int := zs.foldl (fun v b => v * 256 + b) 0
theorem valB_take {zs : List Int} {k : Nat} (h : k < zs.length) : valB (zs.take (k + 1)) = valB (zs.take k) * 256 + zs[k] := by
  rw [valB, List.take_add_one, List.getElem?_eq_getElem h, List.foldl_append]; rfl

set_option maxRecDepth 100000 in
set_option maxHeartbeats 2000000 in
theorem backW_other (v : Value) (zs : List Int) (w : World) (hl : Lst w w.heap.size .u8 v zs) (hn : zs.length ≠ 16) :
    Calls Tryd.prog 32 #[v] w fun e w' => e = .returned (.tuple #[.agg #[.int .i64 ((0) / 18446744073709551616), .int .u64 ((0) % 18446744073709551616)], .bool false]) ∧ Below w.heap.size w w' := by
  obtain ⟨A, c, rfl, hc, hr⟩ := hl
  have hb : ((zs.length : Int) != 16) = true := by simp; omega
  clear hr hn
  go_enter Tryd.func32, Tryd.ntmps32
  go_wp2_with fail
  exact bodyPost_ret (v := .tuple #[.agg #[.int .i64 0, .int .u64 0], .bool false]) (by simp [results, Tryd.results32, go_sem]) rfl ⟨rfl, up1 _ _⟩

/-- The bytes behind k rounds. -/
def rowK (h l : Int) (k : Nat) : List Int := (List.range 16).map fun j => if j < k then h / 2 ^ (56 - 8 * j) % 256 else if 8 ≤ j ∧ j < 8 + k then l / 2 ^ (56 - 8 * (j - 8)) % 256 else 0
theorem rowK_len (h l : Int) (k : Nat) : (rowK h l k).length = 16 := by simp [rowK]
theorem wrap64_zero : wrap64 0 = 0 := by unfold wrap64; omega
/-! a byte behind a word that was shifted by eight places -/
theorem or_add {a x : Int} (ha : a % 256 = 0) (h0 : 0 ≤ x) (h1 : x ≤ 255) : ((BitVec.ofInt 64 a ||| BitVec.ofInt 64 x).toNat : Int) = a % 18446744073709551616 + x := by
  rw [BitVec.toNat_or, BitVec.toNat_ofInt, BitVec.toNat_ofInt]
  have e1 : (a % ((2 ^ 64 : Nat) : Int)).toNat = 2 ^ 8 * ((a % ((2 ^ 64 : Nat) : Int)).toNat / 256) := by omega
  have e2 : (x % ((2 ^ 64 : Nat) : Int)).toNat = x.toNat := by omega
  rw [e2, e1, ← Nat.two_pow_add_eq_or_of_lt (by omega), ← e1]
  omega
theorem or_i64 {v x : Int} (h0 : 0 ≤ x) (h1 : x ≤ 255) : bits .or .i64 (IntKind.i64.wrap (wrap64 v * 256)) x = wrap64 (v * 256 + x) := by
  show IntKind.i64.wrap ((BitVec.ofInt 64 (IntKind.i64.wrap (wrap64 v * 256)) ||| BitVec.ofInt 64 x).toNat : Int) = _
  rw [or_add (by rw [IntKind.wrap_i64]; unfold wrap64; omega) h0 h1, IntKind.wrap_i64, IntKind.wrap_i64]
  unfold wrap64
  omega
theorem or_u64 {v x : Int} (h0 : 0 ≤ x) (h1 : x ≤ 255) (v0 : 0 ≤ v) (v1 : v * 256 + x < 18446744073709551616) : bits .or .u64 (IntKind.u64.wrap (v * 256)) x = v * 256 + x := by
  show IntKind.u64.wrap ((BitVec.ofInt 64 (IntKind.u64.wrap (v * 256)) ||| BitVec.ofInt 64 x).toNat : Int) = _
  rw [or_add (by rw [IntKind.wrap_u64]; omega) h0 h1, IntKind.wrap_u64, IntKind.wrap_u64]
  omega
theorem valB_lt {zs : List Int} (hz : ∀ z ∈ zs, 0 ≤ z ∧ z ≤ 255) : ∀ k : Nat, k ≤ zs.length → 0 ≤ valB (zs.take k) ∧ valB (zs.take k) < 256 ^ k
  | 0, _ => by simp [valB]
  | k + 1, h => by
    have ih := valB_lt hz k (by omega)
    have := hz zs[k] (List.getElem_mem _)
    rw [valB_take (by omega), Int.pow_succ]
    omega
theorem valB_append (xs ys : List Int) : valB (xs ++ ys) = valB xs * 256 ^ ys.length + valB ys := by
  have key : ∀ (ys : List Int) (acc : Int), ys.foldl (fun v b => v * 256 + b) acc = acc * 256 ^ ys.length + ys.foldl (fun v b => v * 256 + b) 0 := by
    intro ys
    induction ys with
    | nil => intro acc; simp
    | cons b t ih =>
      intro acc
      rw [List.foldl_cons, List.foldl_cons, ih, ih (0 * 256 + b), List.length_cons, Int.pow_succ, Int.add_mul, Int.zero_mul, Int.zero_add, Int.mul_assoc, Int.mul_comm 256 (256 ^ t.length), Int.add_assoc]
  rw [valB, List.foldl_append, key]
  rfl
theorem back_words {zs : List Int} (hn : zs.length = 16) (hz : ∀ z ∈ zs, 0 ≤ z ∧ z ≤ 255) : wrap64 (valB (zs.take 8)) = around (valB zs) / 18446744073709551616 ∧ valB ((zs.drop 8).take 8) = around (valB zs) % 18446744073709551616 := by
  have hd : (zs.drop 8).length = 8 := by rw [List.length_drop]; omega
  have e : valB zs = valB (zs.take 8) * 256 ^ 8 + valB (zs.drop 8) := by
    have h := valB_append (zs.take 8) (zs.drop 8)
    rw [List.take_append_drop, hd] at h
    exact h
  have h1 : (zs.drop 8).take 8 = zs.drop 8 := List.take_of_length_le (by omega)
  have h2 := valB_lt (zs := zs.drop 8) (fun z hm => hz z (List.mem_of_mem_drop hm)) 8 (by omega)
  rw [h1] at h2 ⊢
  have hp : (256 : Int) ^ 8 = 18446744073709551616 := by decide
  rw [hp] at h2 e
  rw [around_hi, around_lo, e]
  refine ⟨?_, by omega⟩
  congr 1
  omega
theorem rowK_zero (h l : Int) : rowK h l 0 = List.replicate 16 0 := by
  refine List.ext_getElem (by simp [rowK]) fun j h1 h2 => ?_
  rw [List.getElem_replicate]
  simp only [rowK, List.getElem_map, List.getElem_range]
  rw [if_neg (by omega), if_neg (by omega)]
theorem rowK_next {h l : Int} {k : Nat} (hk : k < 8) : rowK h l (k + 1) = ((rowK h l k).set k (h / 2 ^ (56 - 8 * k) % 256)).set (8 + k) (l / 2 ^ (56 - 8 * k) % 256) := by
  refine List.ext_getElem (by simp [rowK]) fun j h1 h2 => ?_
  rw [List.getElem_set, List.getElem_set]
  simp only [rowK, List.getElem_map, List.getElem_range]
  by_cases a : 8 + k = j
  · rw [if_pos a, if_neg (by omega), if_pos (by omega), show j - 8 = k by omega]
  · rw [if_neg a]
    by_cases b : k = j
    · rw [if_pos b, if_pos (by omega), b]
    · rw [if_neg b]
      by_cases c : j < k
      · rw [if_pos c, if_pos (by omega)]
      · rw [if_neg c, if_neg (by omega)]
        by_cases d : 8 ≤ j ∧ j < 8 + k
        · rw [if_pos d, if_pos (by omega)]
        · rw [if_neg d, if_neg (by omega)]

set_option maxRecDepth 100000 in
set_option maxHeartbeats 2000000 in
theorem bytesW_raw (h l : Int) (w : World) :
    Calls Tryd.prog 31 #[.agg #[.int .i64 h, .int .u64 l]] w (Copied 5 .u8 w (rowK h l 8)) := by
  obtain ⟨i0, hi, hz0, hz1, hz2⟩ := info_parts infoBytes
  go_enter Tryd.func31, Tryd.ntmps31
  have hA := AtP.new w h l 24
  have HW := Lib.hid (up1 w (.cells #[.int .i64 h, .int .u64 l] 24))
  go_upto_region 1 with fail
  change Code.wp _ _ _ _ (w.alloc (.cells #[.int .i64 h, .int .u64 l] 24))
  generalize w.alloc (.cells #[.int .i64 h, .int .u64 l] 24) = W at *
  go_wp2_with (at_make; go_must (refine wpList_make_full _ rfl (.const (.int .i64 16)) (.const (.int .i64 16)) 59 rfl W.heap.size 5 i0 (.int .u8 0) 1 Tryd.underlying59 hi hz0 hz1 .i64 .i64 _ _ 16 rfl rfl (by omega) (by omega) (by rw [hz2]; omega) (by unfold maxLen; omega) (Nat.le_refl _) ?_); intro w1 hown1 hgrow1)
  have hrow1 := RowAt.made hown1
  have hbel1 : Below W.heap.size W w1 := (Below.refl _ _).grown hgrow1 (Nat.le_refl _) (by simp)
  clear hown1 hgrow1 hi hz0 hz1 hz2
  generalize hg : W.heap.size = g at *
  have HG := Lib.hid hg
  clear hg
  have hA1 := hA.below (hbel1.mono (Nat.le_of_eq HG.out))
  go_loopw [7] (fun i wr => ∃ k : Nat, k ≤ 8 ∧ i = .int .i64 (k : Int) ∧ RowAt wr g (rowK h l k) ∧ Below g W wr) (fun i _ => 8 - (intOf i).toNat)
  case atStart => exact ⟨0, Nat.zero_le _, rfl, by rw [rowK_zero]; exact hrow1, hbel1⟩
  case round =>
    obtain ⟨k, hk, rfl, hrow, hbel⟩ := hrel
    by_cases hlt : k < 8
    · have hk2 : (k : Int) < 8 := by omega
      have oc := hrow.cell (j := k) (by rw [rowK_len]; omega)
      have ofr := hrow.free k
      have hset := Lib.hid fun d => hrow.set_ k d
      have hA2 := hA.below (by rw [HG.out]; exact hbel)
      obtain ⟨a0, a1, a2, a3⟩ := id hA2
      have hne : w.heap.size ≠ g := by have := hA.lt; rw [HG.out] at this; omega
      have e1 : ∀ d : Value, (wr.setCell ⟨g, k, none⟩ d).cell? ⟨w.heap.size, 1, none⟩ = some (.int .u64 l) := fun d => (hA2.other hne k d).c1
      have e2 : ∀ d : Int, (wr.setCell ⟨g, k, none⟩ (.int .u8 d)).cell? ⟨g, 8 + k, none⟩ = some (.int .u8 ((rowK h l k)[8 + k]'(by rw [rowK_len]; omega))) := fun d => by
        rw [World.cell?_setCell_other _ _ _ _ (by simp)]
        exact hrow.cell (j := 8 + k) (by rw [rowK_len]; omega)
      have e3 := hrow.free (8 + k)
      have hst := Lib.hid ((hrow.set_ k (h / 2 ^ (56 - 8 * k) % 256)).set_ (8 + k) (l / 2 ^ (56 - 8 * k) % 256))
      have hk3 : 8 + (k : Int) < 16 := by omega
      have hk4 : (8 + (k : Int)).toNat = 8 + k := by omega
      generalize (rowK h l k)[k]'(by rw [rowK_len]; omega) = z0 at *
      generalize (rowK h l k)[8 + k]'(by rw [rowK_len]; omega) = z1 at *
      clear hset
      go_wp2_with fail
      go_roundw
      case rel => exact ⟨k + 1, by omega, by go_num, by rw [rowK_next hlt]; exact hst.out, (hbel.setCell (Nat.le_refl _) _).setCell (Nat.le_refl _) _⟩
      case measure => simp [intOf]; omega
    · obtain rfl : k = 8 := by omega
      have hg8 : ¬ (((8 : Nat) : Int) < 8) := by omega
      go_wp2_with fail
      go_ret
      exact ⟨_, rfl, hrow.own (by rw [← HG.out]; exact HW.out.size) (rowK_len h l 8), HW.out.trans (hbel.mono (by rw [← HG.out]; exact HW.out.size))⟩

set_option maxRecDepth 100000 in
set_option maxHeartbeats 2000000 in
theorem backW_raw (v : Value) (zs : List Int) (w : World) (hl : Lst w w.heap.size .u8 v zs) (hn : zs.length = 16) (hz : ∀ z ∈ zs, 0 ≤ z ∧ z ≤ 255) :
    Calls Tryd.prog 32 #[v] w fun e w' => e = .returned (.tuple #[.agg #[.int .i64 ((around (valB zs)) / 18446744073709551616), .int .u64 ((around (valB zs)) % 18446744073709551616)], .bool true]) ∧ Below w.heap.size w w' := by
  obtain ⟨A, c, rfl, hc, hr⟩ := hl
  obtain ⟨ad, rfl, hblk, hcell⟩ := hr (by omega)
  rw [hn] at hc ⊢
  have HC := Lib.hid hcell
  clear hr hcell
  go_enter Tryd.func32, Tryd.ntmps32
  go_wp2_with fail
  go_loopw [10] (fun i wr => ∃ k : Nat, k ≤ 8 ∧ i = .int .i64 (k : Int) ∧ AtP wr w.heap.size 0 0 ∧ AtP wr (w.heap.size + 1) (wrap64 (valB (zs.take k))) (valB ((zs.drop 8).take k)) ∧ Below w.heap.size w wr) (fun i _ => 8 - (intOf i).toNat)
  case atStart => exact ⟨0, Nat.zero_le _, rfl, (AtP.two w 0 0 0 0 24).1, by simpa [valB, wrap64_zero] using (AtP.two w 0 0 0 0 24).2, up2 _ _ _⟩
  case round =>
    obtain ⟨k, hk, rfl, hA, hT, hbel⟩ := hrel
    by_cases hlt : k < 8
    · have hk2 : (k : Int) < 8 := by omega
      have hk3 : 8 + (k : Int) < 16 := by omega
      have hk4 : (8 + (k : Int)).toNat = 8 + k := by omega
      have lc := (hbel.cell (p := ad.add k) (by rw [block_of_add]; exact hblk)).trans (HC.out k (by omega))
      have lc8 : ∀ X : Value, (wr.setCell ⟨w.heap.size + 1, 0, none⟩ X).cell? (ad.add (8 + k)) = some (.int .u8 (zs[8 + k]'(by omega))) := fun X =>
        ((hbel.setCell (p := ⟨w.heap.size + 1, 0, none⟩) (Nat.le_succ _) X).cell (p := ad.add (8 + k)) (by rw [block_of_add]; exact hblk)).trans (HC.out (8 + k) (by omega))
      have z1 := hz _ (List.getElem_mem (show k < zs.length by omega))
      have z2 := hz _ (List.getElem_mem (show 8 + k < zs.length by omega))
      obtain ⟨r0, r1, p0, p1⟩ := id hA
      obtain ⟨t0, t1, q0, q1⟩ := id hT
      generalize hxe : zs[k]'(by omega) = x at *
      generalize hye : zs[8 + k]'(by omega) = y at *
      have hk5 : (k : Int) < 16 := by omega
      have hk6 : (0 : Int) ≤ 8 + (k : Int) := by omega
      have hk7 : IntKind.i64.wrap (8 + (k : Int)) = 8 + (k : Int) := by rw [IntKind.wrap_i64]; omega
      go_upto_region 7 with fail
      have hx : IntKind.i64.wrap x = x := by rw [IntKind.wrap_i64]; omega
      have hy : IntKind.u64.wrap y = y := by rw [IntKind.wrap_u64]; omega
      have HV : Hid (wrap64 (valB (zs.take (k + 1))) = bits .or .i64 (IntKind.i64.wrap (wrap64 (valB (zs.take k)) * 256)) x) := Lib.hid (by rw [or_i64 z1.1 z1.2, valB_take (by omega), hxe])
      have HL : Hid (valB ((zs.drop 8).take (k + 1)) = bits .or .u64 (IntKind.u64.wrap (valB ((zs.drop 8).take k) * 256)) y) := Lib.hid (by
        have hb := valB_lt (zs := zs.drop 8) (fun z hm => hz z (List.mem_of_mem_drop hm)) (k + 1) (by rw [List.length_drop]; omega)
        have hb0 := valB_lt (zs := zs.drop 8) (fun z hm => hz z (List.mem_of_mem_drop hm)) k (by rw [List.length_drop]; omega)
        have hp : (256 : Int) ^ (k + 1) ≤ 18446744073709551616 := by
          have h1 : 256 ^ (k + 1) ≤ 256 ^ 8 := Nat.pow_le_pow_right (by decide) (by omega)
          have h2 : ((256 ^ (k + 1) : Nat) : Int) ≤ ((256 ^ 8 : Nat) : Int) := Int.ofNat_le.2 h1
          rw [Int.natCast_pow] at h2
          exact h2
        rw [valB_take (by rw [List.length_drop]; omega), List.getElem_drop, hye] at hb ⊢
        rw [or_u64 z2.1 z2.2 hb0.1 (by omega)])
      go_region_with (first | fail)
      all_goals
        go_wp2_with fail
        rw [← HV.out]
        have T2 := ((hT.set0 (wrap64 (valB (zs.take (k + 1))))).drew)
        have R2 := ((hA.other (b' := w.heap.size + 1) (by omega) 0 (.int .i64 (wrap64 (valB (zs.take (k + 1)))))).drew)
        have L2 := lc8 (.int .i64 (wrap64 (valB (zs.take (k + 1)))))
        have B2 := (hbel.setCell (p := ⟨w.heap.size + 1, 0, none⟩) (Nat.le_succ _) (.int .i64 (wrap64 (valB (zs.take (k + 1)))))).drew
        rw [← World.cell?_drew] at L2
        clear lc8 lc r0 r1 p0 p1 t0 t1 q0 q1
        generalize (wr.setCell ⟨w.heap.size + 1, 0, none⟩ (.int .i64 (wrap64 (valB (zs.take (k + 1)))))).drew = W2 at *
        clear hA hT hbel HV
        obtain ⟨r0, r1, p0, p1⟩ := id R2
        obtain ⟨t0, t1, q0, q1⟩ := id T2
        go_region_with (first | fail)
      all_goals
        go_wp2_with fail
        rw [← HL.out]
        go_roundw
        case rel => exact ⟨k + 1, by omega, by go_num, (R2.other (by omega) _ _).drew, (T2.set1 _).drew, (B2.setCell (Nat.le_succ _) _).drew⟩
        case measure => simp [intOf]; omega
    · obtain rfl : k = 8 := by omega
      have hg8 : ¬ (((8 : Nat) : Int) < 8) := by omega
      obtain ⟨r0, r1, p0, p1⟩ := id hA
      obtain ⟨t0, t1, q0, q1⟩ := id hT
      have E := Lib.hid (back_words hn hz)
      go_wp2_with fail
      exact bodyPost_ret (v := .tuple #[.agg #[.int .i64 (wrap64 (valB (zs.take 8))), .int .u64 (valB ((zs.drop 8).take 8))], .bool true]) (by simp [results, Tryd.results32, go_sem, r0, r1]) rfl ⟨ret_wb E.out.1 E.out.2 rfl, ext_put (ext_put hbel (Nat.le_refl _) _) (Nat.le_refl _) _⟩
end Go.Proofs.YtedojpblfmkjeaaDoor
