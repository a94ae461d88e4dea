/- For each list and each place to turn it at: the sum answers what the document says, and the order makes no difference. No condition. -/
import Derived.Test.YtncankjgmchckaaAlive
import Derived.Test.YtncankjgmchckaaPost
import Derived.Test.YtncankjgmchckaaRefI
import Derived.Test.YtncankjgmchckaaCopy
import Derived.Deep.RegionHeld3
import Derived.WideKeyArgs
namespace Go.Proofs.Ytncankjgmchckaa
open Go.RowKit

theorem Lst.from_ {w : World} {B : Nat} {k : IntKind} {A : Option Addr} {n c : Nat} {zs : List Int} (h : Lst w B k (.slice A n c) zs) {m : Nat} (hm : m ≤ zs.length) :
    Lst w B k (.slice (if c = m then A else A.map (·.add m)) (zs.length - m) (c - m)) (zs.drop m) := by
  obtain ⟨A', c', e, hc, hr⟩ := h
  injection e with e1 e2 e3
  subst e1; subst e3
  refine ⟨_, _, by rw [List.length_drop], by rw [List.length_drop]; omega, fun hn => ?_⟩
  rw [List.length_drop] at hn
  obtain ⟨ad, rfl, hb, hcell⟩ := hr (by omega)
  rw [if_neg (by omega)]
  refine ⟨ad.add m, rfl, by rw [block_of_add]; exact hb, fun j hj => ?_⟩
  rw [List.length_drop] at hj
  have e : (ad.add m).add j = ad.add (m + j) := by
    unfold Addr.add
    by_cases h1 : m = 0 <;> by_cases h2 : j = 0 <;> simp [h1, h2, Nat.add_assoc]
  rw [e, hcell (m + j) (by omega), List.getElem_drop]
theorem turned_sum (zs : List Int) (k : Nat) : (zs.drop k ++ zs.take k).sum = zs.sum := by
  rw [List.sum_append, Int.add_comm, ← List.sum_append, List.take_append_drop]

theorem turned_own {w3 w4 w5 : World} {v4 v5 : Value} {ys xs : List Int} {n : Nat} (ho4 : OwnI w4 w3.heap.size v4 ys) (hb4 : Below w3.heap.size w3 w4)
    (ho5 : w5.ownsRow w3.heap.size 2 1 v5 (ys.length + n) (ys.map (Value.int .i64) ++ xs.map (Value.int .i64))) (hx : xs.length = n) (hg5 : w4.grownBy w5 v4.ownBlock) :
    OwnI w5 w3.heap.size v5 (ys ++ xs) ∧ Below w3.heap.size w3 w5 := by
  subst hx
  exact ⟨by unfold OwnI; rw [List.length_append, List.map_append]; exact ho5, hb4.grown hg5 hb4.size (fun k hk => (ho4.lt k hk).1)⟩

set_option maxRecDepth 100000 in
set_option maxHeartbeats 2000000 in
theorem sums_walk (v : Value) (zs : List Int) (turn : Int) (w : World) (hl : Lst w w.heap.size .i64 v zs) (hf : ∀ z ∈ zs, Fits z) (ht : Fits turn) (hbig : zs.length ≤ 9223372036854775807) :
    Calls Try.prog 4 #[v, .int .i64 turn] w fun e w' => e = .returned (.bool true) ∧ Below w.heap.size w w' := by
  have C0 := Lib.hid alive_any
  have HL := Lib.hid hl
  have HF := Lib.hid hf
  obtain ⟨t0, t1⟩ := ht
  obtain ⟨A, c, rfl⟩ := hl.len
  have hcap : zs.length ≤ c := by
    obtain ⟨A', c', e, hc, _⟩ := hl
    injection e with e1 e2 e3
    omega
  clear hl hf
  obtain ⟨i0, hi, hz0, hz1, hz2⟩ := info_parts long_info
  go_enter Try.func4, Try.ntmps4
  go_wp2_with fail
  refine (C0.out _).mono ?_; rintro e w1 ⟨rfl, hb1⟩
  by_cases h100 : 100 < zs.length
  · go_wp2_with fail
    go_ret
    exact ⟨rfl, hb1⟩
  · have L1 := Lib.hid ((HL.out.below hb1).more (B' := w1.heap.size) hb1.size)
    go_wp2_with fail
    refine (copy_any _ zs w1 L1.out (by omega)).mono ?_; rintro e w2 ⟨v2, rfl, ho2, hb2⟩
    have hp2 := hb1.trans (hb2.mono hb1.size)
    have L2 := Lib.hid ho2.lst
    clear ho2
    go_wp2_with fail
    refine (sum_any v2 zs w2 L2.out HF.out hbig).mono ?_; rintro e w' ⟨rfl, rfl⟩
    go_wp2_with fail
    refine (refSum_any _ zs w2 ((HL.out.below hp2).more hp2.size) HF.out (by omega)).mono ?_; rintro e w3 ⟨rfl, hb3⟩
    have hp3 := hp2.trans (hb3.mono hp2.size)
    have L3 := Lib.hid ((L2.out.below hb3).more (B' := w3.heap.size) hb3.size)
    have LA := Lib.hid ((HL.out.below hp3).more (B' := w3.heap.size) hp3.size)
    clear hb1 hb2 hb3 hp2
    have HP := Lib.hid hp3
    clear hp3
    go_upto_region 8 with fail
    go_cut [37] (fun b wx => ∃ bad : Bool, b = .bool bad ∧ Hid (bad = decide (turn < 0 ∨ (zs.length : Int) < turn)) ∧ w3 = wx)
    case first =>
      by_cases h0 : turn < 0
      · go_wp2_with fail
        go_meet
        exact ⟨true, rfl, Lib.hid (by simp [h0]), rfl⟩
      · by_cases h1 : (zs.length : Int) < turn
        · go_wp2_with fail
          go_meet
          exact ⟨true, rfl, Lib.hid (by simp [h1]), rfl⟩
        · go_wp2_with fail
          go_meet
          exact ⟨false, rfl, Lib.hid (by simp; omega), rfl⟩
    case rest =>
      obtain ⟨bad, rfl, hbad, rfl⟩ := hcut
      go_upto_if 37 with fail
      go_cut [1] (fun t wx => ∃ k : Nat, k ≤ zs.length ∧ t = .int .i64 k ∧ w3 = wx)
      case first =>
        cases bad
        · have hb := of_decide_eq_false hbad.out.symm
          obtain ⟨k, rfl⟩ := Int.eq_ofNat_of_zero_le (show 0 ≤ turn by omega)
          go_wp2_with fail
          go_meet
          exact ⟨k, by omega, rfl, rfl⟩
        · go_wp2_with fail
          go_meet
          exact ⟨0, Nat.zero_le _, rfl, rfl⟩
      case rest =>
        clear hbad bad t0 t1
        obtain ⟨k, hk, rfl, rfl⟩ := hcut
        go_upto_region 10 with fail
        have lf := LA.out.from_ hk
        have CC := Lib.hid (fun W v (h : Lst W W.heap.size .i64 v (zs.drop k)) => copy_any v (zs.drop k) W h (by rw [List.length_drop]; omega))
        have g0 : (0 : Int) ≤ (k : Int) := Int.natCast_nonneg k
        have g1 : (k : Int) ≤ (c : Int) := by omega
        have g2 : (k : Int) ≤ (zs.length : Int) := by omega
        have g3 : k ≤ c := by omega
        have HTL : Hid ((zs.take k).length = k) := Lib.hid (by rw [List.length_take]; omega)
        have HDL : Hid ((zs.drop k).length = zs.length - k) := Lib.hid List.length_drop
        by_cases hck : c = k
        · rw [if_pos hck] at lf
          subst hck
          rw [Nat.sub_self] at lf
          have e0 : zs.length - c = 0 := by omega
          rw [e0] at lf
          have LF := Lib.hid lf
          clear lf
          go_region_held3 (fun _ => True) (exact trivial)
            (first
              | (go_at_call 15; refine (CC.out _ _ (by exact LF.out)).mono ?_; rintro e w4 ⟨v4, rfl, ho4, hq4⟩; have hb4 : Below w3.heap.size w3 w4 := ⟨hq4.os, hq4.tape, hq4.output, hq4.size, hq4.block⟩; clear hq4; have lt4 := (LA.out.cut hk).src (w' := w4) (fun _ hp => hb4.cell hp))
              | (refine step_append_src _ rfl (.tmp 41) (.tmp 44) 27 rfl w3.heap.size 2 i0 (.int .i64 0) Try.underlying27 hi hz0 hz1 hz2 rfl v4 (zs.drop c).length ((zs.drop c).map (Value.int .i64)) rfl (by exact ho4) A c (zs.take c) (by rw [HTL.out]; rfl) (by exact lt4) (by rw [HTL.out, HDL.out]; unfold maxLen; omega) (by rw [HTL.out, HDL.out]; omega) (by exact hb4.size) ?_; intro v5 w5 ho5 hg5))
          obtain ⟨hO, hB⟩ := turned_own (w3 := w3) ho4 hb4 ho5 rfl hg5
          have L5 := Lib.hid hO.lst
          have M2 := Lib.hid ((L3.out.below hB).more (B' := w5.heap.size) hB.size)
          have MA := Lib.hid ((LA.out.below hB).more (B' := w5.heap.size) hB.size)
          have HZ := Lib.hid (HP.out.trans (hB.mono HP.out.size))
          have hfs : ∀ z ∈ zs.drop c ++ zs.take c, Fits z := fun z hz => HF.out z (by
            rcases List.mem_append.1 hz with h | h
            · exact List.mem_of_mem_drop h
            · exact List.mem_of_mem_take h)
          have cs := sum_any v5 (zs.drop c ++ zs.take c) w5 L5.out hfs (by rw [List.length_append, List.length_drop, List.length_take]; omega)
          rw [turned_sum] at cs
          have CS := Lib.hid cs
          clear ho4 hb4 ho5 hg5 hO hB lt4 hfs cs
          go_wp2_with fail
          refine (CS.out).mono ?_; rintro e w' ⟨rfl, rfl⟩
          go_wp2_with fail
          refine (same_any _ _ zs _ M2.out MA.out (by omega)).mono ?_; rintro e w' ⟨rfl, n6, rfl⟩
          go_wp2_with fail
          go_ret
          exact ⟨rfl, below_drewN HZ.out _⟩
        · rw [if_neg hck] at lf
          have LF := Lib.hid lf
          clear lf
          go_region_held3 (fun _ => True) (exact trivial)
            (first
              | (go_at_call 15; refine (CC.out _ _ (by exact LF.out)).mono ?_; rintro e w4 ⟨v4, rfl, ho4, hq4⟩; have hb4 : Below w3.heap.size w3 w4 := ⟨hq4.os, hq4.tape, hq4.output, hq4.size, hq4.block⟩; clear hq4; have lt4 := (LA.out.cut hk).src (w' := w4) (fun _ hp => hb4.cell hp))
              | (refine step_append_src _ rfl (.tmp 41) (.tmp 44) 27 rfl w3.heap.size 2 i0 (.int .i64 0) Try.underlying27 hi hz0 hz1 hz2 rfl v4 (zs.drop k).length ((zs.drop k).map (Value.int .i64)) rfl (by exact ho4) A c (zs.take k) (by rw [HTL.out]; rfl) (by exact lt4) (by rw [HTL.out, HDL.out]; unfold maxLen; omega) (by rw [HTL.out, HDL.out]; omega) (by exact hb4.size) ?_; intro v5 w5 ho5 hg5))
          obtain ⟨hO, hB⟩ := turned_own (w3 := w3) ho4 hb4 ho5 rfl hg5
          have L5 := Lib.hid hO.lst
          have M2 := Lib.hid ((L3.out.below hB).more (B' := w5.heap.size) hB.size)
          have MA := Lib.hid ((LA.out.below hB).more (B' := w5.heap.size) hB.size)
          have HZ := Lib.hid (HP.out.trans (hB.mono HP.out.size))
          have hfs : ∀ z ∈ zs.drop k ++ zs.take k, Fits z := fun z hz => HF.out z (by
            rcases List.mem_append.1 hz with h | h
            · exact List.mem_of_mem_drop h
            · exact List.mem_of_mem_take h)
          have cs := sum_any v5 (zs.drop k ++ zs.take k) w5 L5.out hfs (by rw [List.length_append, List.length_drop, List.length_take]; omega)
          rw [turned_sum] at cs
          have CS := Lib.hid cs
          clear ho4 hb4 ho5 hg5 hO hB lt4 hfs cs
          go_wp2_with fail
          refine (CS.out).mono ?_; rintro e w' ⟨rfl, rfl⟩
          go_wp2_with fail
          refine (same_any _ _ zs _ M2.out MA.out (by omega)).mono ?_; rintro e w' ⟨rfl, n6, rfl⟩
          go_wp2_with fail
          go_ret
          exact ⟨rfl, below_drewN HZ.out _⟩

open Go.WideShapes Go.ChangeShapes in
theorem open_longs {H : Type} {enc : TypeId × Value → H} {W : World} {base : Nat} {v : Value} {d : DataW H} {p : List MemPlace} (hval : Value.okWide Try.prog W .any base 27 v)
    (h : DataW.Trod enc Try.prog W 0 (fun _ => true) true 27 v d p) : ∃ zs : List Int, Lst W W.heap.size .i64 v zs ∧ (∀ z ∈ zs, Fits z) ∧ zs.length ≤ 9223372036854775807 := by
  obtain ⟨a0, len, cap, rfl⟩ := okWide_slice Try.underlying27 hval
  obtain ⟨fuel, hf⟩ := h
  rcases open_ints Try.underlying27 Try.underlying2 (by kernel_rfl) hf with ⟨hcs, hx⟩ | ⟨a, len', cap', zs, hcs, _, hl, hm, hz, hx, hcell, hwz⟩
  · simp [Value.cells] at hcs
    obtain ⟨rfl, rfl, rfl⟩ := hcs
    exact ⟨[], Lst.nil _ _ _, fun z hz => (List.not_mem_nil hz).elim, by simp⟩
  · simp [Value.cells] at hcs
    obtain ⟨rfl, rfl, rfl⟩ := hcs
    simp only [if_true] at hz
    unfold maxLen at hm
    have hlen : (zs.take len).length = len := by rw [List.length_take]; omega
    refine ⟨zs.take len, ⟨some a, cap, by rw [hlen], by omega, fun hn => ⟨a, rfl, ?_, fun j hj => ?_⟩⟩, fun z hz => fits_wf (hwz z (List.mem_of_mem_take hz)), by omega⟩
    · have h0 := World.block_lt_of_cell? _ _ (hcell 0 (by omega))
      rw [block_of_add] at h0
      exact h0
    · rw [hlen] at hj
      rw [hcell j (by omega), List.getElem_take, List.getD_eq_getElem?_getD, List.getElem?_eq_getElem (by omega)]
      rfl

namespace safeSums
open Go.ChangeShapes Go.WideShapes Go.ChangeAt Go.RowKit
theorem own : ownKnob Try.prog.godebug = none := by kernel_rfl
theorem laidOut : laidOutB Try.prog = true := by kernel_rfl
set_option maxRecDepth 100000 in
theorem lifted (os : Os) (started : os.Started) (H : Type) (enc : TypeId × Value → H) :
    ReturnsInHanded {} Try.checked os 4 .any (Rows.safeSumsSpec.pre6 enc Try.prog Try.f4 Rows.safeSumsRow.domain false) (Rows.safeSumsSpec.post enc Try.prog Try.f4 false true false false) := by
  refine returnsInHanded_of_change (C := Try.checked) own started (by kernel_rfl) Try.func4
    (ChangeSpec.witness6 (enc := enc) (C := Try.checked) false ⟨#[], #[.slice none 0 0, .int .i64 0], []⟩ 8 (by kernel_rfl) (by kernel_rfl) (by kernel_rfl) (by kernel_rfl)) ?_
  intro W base args ds gs before hval0 hW hcnd _
  have hval : ∀ (j : Nat) t v, Try.f4.params[j]? = some t → args[j]? = some v → Value.okWide Try.prog W .any base t v := hval0
  have hW' := hW
  obtain ⟨p, q, hA0, hV, rfl, hfz, hnd⟩ := hW
  have hA : DataW.TrodAll enc Try.prog W 0 (fun _ => true) true Try.f4.params.toList args.toList ds p := hA0
  rw [Try.params4] at hA hval
  obtain ⟨v0, v1, d0, d1, p0, p1, rfl, rfl, rfl, h0, h1⟩ := trodAll_two hA
  obtain ⟨rfl, rfl⟩ := trodVars_none hV
  obtain ⟨zs, hL, hF, hN⟩ := open_longs (hval 0 27 v0 rfl rfl) h0
  obtain ⟨a1, rfl, rfl, rfl, w1⟩ := open_int Try.underlying3 (hval 1 3 v1 rfl rfl) h1
  clear hA0 hval0 hcnd
  simp only [List.append_nil] at hW'
  have hlt : ∀ x ∈ p0, x.block < W.heap.size := fun x hx => by simpa using hW'.lt x (by simpa using hx)
  refine (sums_walk v0 zs a1 W hL hF (fits_wf w1) hN).mono fun e W' ⟨he, hg⟩ => ?_
  subst he
  exact ⟨_, rfl, post_of_below (pa := p0 ++ []) (pv := []) hW' (fun _ _ _ => (trodAll_cons_mk (shut_bool Try.underlying4 _) trodAll_mk0))
    (fun sp hsp => trodAll_mk2 (WideElems.Trod_stays laidOut (by kernel_rfl) (of_decide_eq_true (by kernel_rfl)) h0 (fun x hx => hg.same (hlt x hx)) (fun x hx => hsp x (by simpa using hx))) (shut_int Try.underlying3 w1))
    (fun _ _ => rfl) (by simp) hg (ok_one (by kernel_rfl) rfl (okWide_bool_mk Try.underlying4 _))⟩

theorem over : Rows.safeSumsRow.holds Try.pinned (OpenSpec.ofChange Rows.safeSumsSpec) :=
  OpenClaim.holds_of_wide 4 Try.f4 rfl rfl rfl rfl rfl rfl rfl ⟨rfl, rfl, rfl, rfl, rfl⟩ rfl rfl rfl rfl rfl (by kernel_rfl) Try.func4 (by kernel_rfl)
    (of_decide_eq_true (by kernel_rfl)) (by unfold Func.isWrapper; first | (rw [if_pos (by decide +kernel)]; kernel_rfl) | (rw [if_neg (by decide +kernel)]; exact ⟨rfl, rfl⟩))
    (fun os started H enc _ => lifted os started H enc)
end safeSums

theorem safeSums_holds : Rows.SafeSumsSaid := safeSums.over
end Go.Proofs.Ytncankjgmchckaa
