/- What a row of law 6 opens beside lists of numbers: lists of texts, of questions. -/
import Derived.Test.YtcihojimojipiaaCodC
import Derived.Test.YtcihojimojipiaaPairs
import Derived.Test.YtcihojimojipiaaOpens
import Derived.Deep.SlicePairs
import Derived.SliceStrings
namespace Go.Proofs.Ytcihojimojipiaa
open Go.RowKit

set_option maxRecDepth 100000 in
open Go.WideShapes Go.ChangeShapes in
theorem open_texts {H : Type} {enc : TypeId × Value → H} {W : World} {base : Nat} {v : Value} {d : DataW H} {p : List MemPlace}
    (hval : Value.okWide Try.prog W .any base 24 v) (h : DataW.Trod enc Try.prog W 0 (fun _ => true) true 24 v d p) : ∃ ss : List ByteArray, LstS W W.heap.size v ss ∧ (ss = [] ∨ ∃ el sp, d = .slice el sp ∧ el.length = ss.length) := by
  obtain ⟨a0, len, cap, rfl⟩ := okWide_slice Try.underlying24 hval
  obtain ⟨fuel, hf⟩ := h
  rcases open_strings Try.underlying24 Try.underlying9 (by kernel_rfl) hf with ⟨hcs, hx⟩ | ⟨a, len', cap', ss, hcs, _, hl, hm, hz, hx, hcell, hws⟩
  · simp [Value.cells] at hcs
    obtain ⟨rfl, rfl, rfl⟩ := hcs
    exact ⟨[], ⟨none, 0, rfl, Nat.le_refl _, fun h => absurd h (by simp)⟩, Or.inl rfl⟩
  · simp [Value.cells] at hcs
    obtain ⟨rfl, rfl, rfl⟩ := hcs
    simp only [if_true] at hz
    have hlen : (ss.take len).length = len := by rw [List.length_take]; omega
    injection hx with hx1 hx2
    refine ⟨ss.take len, ⟨some a, cap, by rw [hlen], by omega, fun hn => ⟨a, rfl, ?_, fun j hj => ?_⟩⟩, Or.inr ⟨_, _, hx1, by simp [strs]⟩⟩
    · have h0 := World.block_lt_of_cell? _ _ (hcell 0 (by omega))
      rw [block_of_add] at h0
      exact h0
    · rw [hlen] at hj
      rw [hcell j (by omega), List.getElem_take, List.getD_eq_getElem?_getD, List.getElem?_eq_getElem (by omega)]
      rfl
set_option maxRecDepth 100000 in
open Go.WideShapes Go.ChangeShapes in
theorem open_asks {H : Type} {enc : TypeId × Value → H} {W : World} {base : Nat} {v : Value} {d : DataW H} {p : List MemPlace} (hval : Value.okWide Try.prog W .any base 38 v)
    (h : DataW.Trod enc Try.prog W 0 (fun _ => true) true 38 v d p) : ∃ gs : List (Int × Int), Gaps W W.heap.size v gs ∧ (∀ g ∈ gs, Fits g.1 ∧ Fits g.2) := by
  obtain ⟨a0, len, cap, rfl⟩ := okWide_slice Try.underlying38 hval
  obtain ⟨fuel, hf⟩ := h
  rcases Deep.open_slice_pairs Try.underlying38 Try.underlying45 (by kernel_rfl) rfl rfl (by kernel_rfl) (by kernel_rfl) hf with ⟨hcs, hx⟩ | ⟨a, len', cap', m, n, V0, V1, D0, D1, P0, P1, hcs, _, hl, hm, hmm, hx, hcell⟩
  · simp [Value.cells] at hcs
    obtain ⟨rfl, rfl, rfl⟩ := hcs
    exact ⟨[], Gaps.nil _ _, fun z hz => (List.not_mem_nil hz).elim⟩
  · simp [Value.cells] at hcs
    obtain ⟨rfl, rfl, rfl⟩ := hcs
    simp only [if_true] at hmm
    subst hmm
    unfold maxLen at hm
    have hz : ∀ i, i < m → ∃ x y : Int, W.cell? (a.add (i * 2)) = some (.int .i64 x) ∧ W.cell? (a.add (i * 2 + 1)) = some (.int .i64 y) ∧ Fits x ∧ Fits y ∧ V0 i = .int .i64 x ∧ V1 i = .int .i64 y := by
      intro i hi
      obtain ⟨k0, k1, t0, t1⟩ := hcell i hi
      obtain ⟨z0, e0, _, w0⟩ := DataW.trod_int (k := .i64) Try.underlying3 t0
      obtain ⟨z1, e1, _, w1⟩ := DataW.trod_int (k := .i64) Try.underlying3 t1
      injection e0 with e0 _
      injection e1 with e1 _
      exact ⟨z0, z1, by rw [k0, e0], by rw [k1, e1], fits_lit w0, fits_lit w1, e0, e1⟩
    refine ⟨(List.range len).map fun i => (intOf (V0 i), intOf (V1 i)), ⟨some a, m, by simp, by simpa using hl, fun hn => ⟨a, rfl, ?_, fun j hj => ?_⟩⟩, fun g hg => ?_⟩
    · simp at hn
      obtain ⟨x, y, k0, _⟩ := hz 0 (by omega)
      have h0 := World.block_lt_of_cell? _ _ k0
      rw [block_of_add] at h0
      exact h0
    · simp at hj
      obtain ⟨x, y, k0, k1, _, _, e0, e1⟩ := hz j (by omega)
      simp only [List.getElem_map, List.getElem_range, e0, e1, intOf]
      exact ⟨k0, k1⟩
    · obtain ⟨j, hj, rfl⟩ := List.mem_map.1 hg
      have hj := List.mem_range.1 hj
      obtain ⟨x, y, _, _, f0, f1, e0, e1⟩ := hz j (by omega)
      simp only [e0, e1, intOf]
      exact ⟨f0, f1⟩
end Go.Proofs.Ytcihojimojipiaa
