/- What a row of law 5 opens: lists of longs, rows of longs, lists of rows, numbers of two words. -/
import Derived.Test.YtmafkknnekkcdaaHstK
import Derived.Test.YtmafkknnekkcdaaTwo
import Derived.Test.YtmafkknnekkcdaaPost
import Derived.ProofKit
import Derived.OpenShut
import Derived.Lib.SmallJoins
import Derived.WideKeyArgs
import Derived.ChangeMaps5
import Derived.Deep.SlicePairs
namespace Go.Proofs.Ytmafkknnekkcdaa
open Go.RowKit

theorem fits_lit {a : Int} (h : (Lit.int .i64 a).wf = true) : Fits a := by
  simp [Lit.wf, IntKind.min, IntKind.max, IntKind.signed, IntKind.bits] at h
  unfold Fits; omega
theorem word_wf {z : Int} (h : (Lit.int .u64 z).wf = true) : 0 ≤ z ∧ z < 18446744073709551616 := by
  simp [Lit.wf, IntKind.min, IntKind.max, IntKind.signed, IntKind.bits] at h
  omega
theorem cells65 : Try.prog.cellsOf 32 = 65 := by kernel_rfl
theorem cells64 : Try.prog.cellsOf 2 = 1 := by kernel_rfl
set_option maxRecDepth 100000 in
open Go.WideShapes Go.ChangeShapes in
theorem row_of_trod {H : Type} {enc : TypeId × Value → H} {W : World} {base : Nat} {spare : Nat → Bool} {held : Bool} {fuel : Nat} {cs : List Value} {x : DataW H × List MemPlace} (h : DataW.trod enc Try.prog W base spare held fuel 32 cs = some x) :
    ∃ zs : List Int, cs = zs.map (Value.int .i64) ∧ zs.length = 65 ∧ ∀ z ∈ zs, Fits z := by
  obtain ⟨xs, m, _, _, hl, hxl, hx⟩ := DataW.trod_array Try.underlying32 h
  rw [cells65] at hl
  have each : ∀ i, i < 65 → ∃ z, cs[i]? = some (.int .i64 z) ∧ Fits z := by
    intro i hi
    have h := hx i hi
    rw [cells64, Nat.mul_one] at h
    rw [List.getElem?_eq_getElem (show i < xs.length by omega)] at h
    obtain ⟨z, e, _, w⟩ := DataW.trod_int (k := .i64) Try.underlying2 h
    have hic : i < cs.length := by omega
    rw [List.drop_eq_getElem_cons hic] at e
    have e2 : [cs[i]] = [Value.int .i64 z] := e
    injection e2 with e2
    exact ⟨z, by rw [List.getElem?_eq_getElem hic, e2], fits_lit w⟩
  refine ⟨cs.map intOf, ?_, by rw [List.length_map, hl], fun z hz => ?_⟩
  · apply List.ext_getElem?
    intro i
    by_cases hi : i < 65
    · obtain ⟨z, e, _⟩ := each i hi
      simp [e, intOf]
    · rw [List.getElem?_eq_none (by omega), List.getElem?_eq_none (by rw [List.length_map, List.length_map]; omega)]
  · obtain ⟨v, hv, rfl⟩ := List.mem_map.1 hz
    obtain ⟨i, hi, rfl⟩ := List.getElem_of_mem hv
    obtain ⟨z, e, f⟩ := each i (by omega)
    rw [List.getElem?_eq_getElem hi] at e
    injection e with e
    rw [e]; exact f
set_option maxRecDepth 100000 in
open Go.WideShapes Go.ChangeShapes in
theorem open_row {H : Type} {enc : TypeId × Value → H} {W : World} {base : Nat} {v : Value} {d : DataW H} {p : List MemPlace} (hval : Value.okWide Try.prog W .any base 32 v)
    (h : DataW.Trod enc Try.prog W 0 (fun _ => true) true 32 v d p) : ∃ zs : List Int, v = rowV zs ∧ zs.length = 65 ∧ ∀ z ∈ zs, Fits z := by
  unfold Value.okWide at hval
  rw [Try.underlying32] at hval
  obtain ⟨cs, rfl, _⟩ := hval
  obtain ⟨fuel, hf⟩ := h
  obtain ⟨zs, e, hl, hF⟩ := row_of_trod hf
  have e : cs.toList = zs.map (Value.int .i64) := e
  exact ⟨zs, by rw [rowV, ← e, Array.toArray_toList], hl, hF⟩
set_option maxRecDepth 100000 in
open Go.WideShapes Go.ChangeShapes in
theorem open_rows {H : Type} {enc : TypeId × Value → H} {W : World} {base : Nat} {v : Value} {d : DataW H} {p : List MemPlace} (hval : Value.okWide Try.prog W .any base 31 v)
    (h : DataW.Trod enc Try.prog W 0 (fun _ => true) true 31 v d p) : ∃ rs : List (List Int), RowsS W W.heap.size v rs ∧ (∀ r ∈ rs, ∀ z ∈ r, Fits z) ∧ rs.length ≤ 9223372036854775807 := by
  obtain ⟨a0, len, cap, rfl⟩ := okWide_slice Try.underlying31 hval
  obtain ⟨fuel, hf⟩ := h
  rcases Deep.open_slice Try.underlying31 hf with ⟨hcs, hx⟩ | ⟨a, len', cap', m, n, D, Pl, hcs, _, hl, hm, hmm, hx, hcell⟩
  · simp [Value.cells] at hcs
    obtain ⟨rfl, rfl, rfl⟩ := hcs
    exact ⟨[], ⟨none, 0, rfl, Nat.le_refl _, fun h => by simp at h⟩, fun z hz => (List.not_mem_nil hz).elim, by simp⟩
  · simp [Value.cells] at hcs
    obtain ⟨rfl, rfl, rfl⟩ := hcs
    simp only [if_true] at hmm
    subst hmm
    unfold maxLen at hm
    have hz : ∀ i, ∃ zs : List Int, i < m → zs.length = 65 ∧ (∀ z ∈ zs, Fits z) ∧ ∀ j v, (zs.map (Value.int .i64))[j]? = some v → W.cell? (a.add (i * 65 + j)) = some v := by
      intro i
      by_cases hi : i < m
      · obtain ⟨cs', h1, h2⟩ := hcell i hi
        rw [cells65] at h1
        obtain ⟨_, hlen, hc⟩ := World.cells?_some h1
        obtain ⟨zs, rfl, h65, hF⟩ := row_of_trod h2
        refine ⟨zs, fun _ => ⟨h65, hF, fun j v hv => ?_⟩⟩
        have hj := (List.getElem?_eq_some_iff.1 hv).1
        rw [List.length_map] at hj
        rw [← Deep.add_add, hc j (by omega)]
        exact hv
      · exact ⟨[], fun h => absurd h hi⟩
    refine ⟨(List.range len).map fun i => Classical.choose (hz i), ⟨some a, m, by simp, by simpa using hl, fun hn => ?_⟩, fun r hr => ?_, by simp; omega⟩
    · simp at hn
      obtain ⟨k1, k2, k3⟩ := Classical.choose_spec (hz 0) (by omega)
      have k4 : (((Classical.choose (hz 0)).map (Value.int .i64)))[0]? = some (((Classical.choose (hz 0)).map (Value.int .i64))[0]'(by rw [List.length_map]; omega)) := List.getElem?_eq_getElem _
      have h0 := k3 0 _ k4
      rw [show a.add (0 * 65 + 0) = a by simp [Addr.add]] at h0
      have hlt := World.block_lt_of_cell? _ _ h0
      obtain ⟨b, o, sp⟩ := a
      have hsp : sp = none := by
        unfold World.cell? at h0
        split at h0
        · cases sp
          · rfl
          · simp at h0
        · cases h0
      subst hsp
      refine ⟨b, o, rfl, hlt, fun j hj => ?_⟩
      simp at hj
      obtain ⟨k1, k2, k3⟩ := Classical.choose_spec (hz j) (by omega)
      simp only [List.getElem_map, List.getElem_range]
      refine ⟨k1, fun i v hv => ?_⟩
      have := k3 i v hv
      rwa [Addr.add_mid, ← Nat.add_assoc] at this
    · obtain ⟨i, hi, rfl⟩ := List.mem_map.1 hr
      rw [List.mem_range] at hi
      exact (Classical.choose_spec (hz i) (by omega)).2.1
set_option maxRecDepth 100000 in
open Go.WideShapes Go.ChangeShapes in
theorem open_longs {H : Type} {enc : TypeId × Value → H} {W : World} {base : Nat} {v : Value} {d : DataW H} {p : List MemPlace} (hval : Value.okWide Try.prog W .any base 30 v)
    (h : DataW.Trod enc Try.prog W 0 (fun _ => true) true 30 v d p) : ∃ zs : List Int, Lst W W.heap.size .i64 v zs ∧ (∀ z ∈ zs, Fits z) ∧ zs.length ≤ 9223372036854775807 := by
  obtain ⟨a0, len, cap, rfl⟩ := okWide_slice Try.underlying30 hval
  obtain ⟨fuel, hf⟩ := h
  rcases open_ints Try.underlying30 Try.underlying2 (by kernel_rfl) hf with ⟨hcs, hx⟩ | ⟨a, len', cap', zs, hcs, _, hl, hm, hz, hx, hcell, hwz⟩
  · simp [Value.cells] at hcs
    obtain ⟨rfl, rfl, rfl⟩ := hcs
    exact ⟨[], Lst.nil _ _ _, fun z hz => (List.not_mem_nil hz).elim, by simp⟩
  · simp [Value.cells] at hcs
    obtain ⟨rfl, rfl, rfl⟩ := hcs
    simp only [if_true] at hz
    unfold maxLen at hm
    have hlen : (zs.take len).length = len := by rw [List.length_take]; omega
    refine ⟨zs.take len, ⟨some a, cap, by rw [hlen], by omega, fun hn => ⟨a, rfl, ?_, fun j hj => ?_⟩⟩, fun z hz => fits_lit (hwz z (List.mem_of_mem_take hz)), by omega⟩
    · have h0 := World.block_lt_of_cell? _ _ (hcell 0 (by omega))
      rw [block_of_add] at h0
      exact h0
    · rw [hlen] at hj
      rw [hcell j (by omega), List.getElem_take, List.getD_eq_getElem?_getD, List.getElem?_eq_getElem (by omega)]
      rfl
set_option maxRecDepth 100000 in
open Go.WideShapes Go.ChangeShapes in
theorem open_words {H : Type} {enc : TypeId × Value → H} {W : World} {base : Nat} {v : Value} {d : DataW H} {p : List MemPlace} (hval : Value.okWide Try.prog W .any base 47 v)
    (h : DataW.Trod enc Try.prog W 0 (fun _ => true) true 47 v d p) : ∃ hi lo : Int, v = .agg #[.int .i64 hi, .int .u64 lo] ∧ Fits hi ∧ 0 ≤ lo ∧ lo ≤ 18446744073709551615 := by
  obtain ⟨v0, v1, y0, y1, n, rfl, rfl, rfl, h0, h1⟩ := Joins.open_agg2 Try.underlying47 (by kernel_rfl) (by kernel_rfl) hval h
  obtain ⟨z0, e0, rfl, w0⟩ := DataW.trod_int (k := .i64) Try.underlying2 h0
  obtain ⟨z1, e1, rfl, w1⟩ := DataW.trod_int (k := .u64) Try.underlying45 h1
  injection e0 with e0 _
  injection e1 with e1 _
  subst e0; subst e1
  have b1 := word_wf w1
  exact ⟨z0, z1, rfl, fits_lit w0, b1.1, by omega⟩
end Go.Proofs.Ytmafkknnekkcdaa
