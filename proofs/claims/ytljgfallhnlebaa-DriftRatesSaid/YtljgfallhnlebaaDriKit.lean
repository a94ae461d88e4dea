/- What a row of law 4 opens: a list of points. -/
import Derived.Test.YtljgfallhnlebaaPairs
import Derived.ProofKit
import Derived.OpenShut
import Derived.Lib.SmallJoins
import Derived.WideKeyArgs
import Derived.ChangeMaps5
import Derived.Deep.SlicePairs
namespace Go.Proofs.Ytljgfallhnlebaa
open Go.RowKit

theorem fits_lit {a : Int} (h : (Lit.int .i64 a).wf = true) : Fits a := by
  simp [Lit.wf, IntKind.min, IntKind.max, IntKind.signed, IntKind.bits] at h
  unfold Fits; omega
set_option maxRecDepth 100000 in
open Go.WideShapes Go.ChangeShapes in
theorem open_points {H : Type} {enc : TypeId × Value → H} {W : World} {base : Nat} {v : Value} {d : DataW H} {p : List MemPlace} (hval : Value.okWide Try.prog W .any base 28 v)
    (h : DataW.Trod enc Try.prog W 0 (fun _ => true) true 28 v d p) : ∃ gs : List (Int × Int), Gaps W W.heap.size v gs ∧ (∀ g ∈ gs, Fits g.1 ∧ Fits g.2) ∧ gs.length ≤ 9223372036854775807 := by
  obtain ⟨a0, len, cap, rfl⟩ := okWide_slice Try.underlying28 hval
  obtain ⟨fuel, hf⟩ := h
  rcases Deep.open_slice_pairs Try.underlying28 Try.underlying36 (by kernel_rfl) rfl rfl (by kernel_rfl) (by kernel_rfl) hf with ⟨hcs, hx⟩ | ⟨a, len', cap', m, n, V0, V1, D0, D1, P0, P1, hcs, _, hl, hm, hmm, hx, hcell⟩
  · simp [Value.cells] at hcs
    obtain ⟨rfl, rfl, rfl⟩ := hcs
    exact ⟨[], Gaps.nil _ _, fun z hz => (List.not_mem_nil hz).elim, by simp⟩
  · simp [Value.cells] at hcs
    obtain ⟨rfl, rfl, rfl⟩ := hcs
    simp only [if_true] at hmm
    subst hmm
    unfold maxLen at hm
    have hz : ∀ i, i < m → ∃ x y : Int, W.cell? (a.add (i * 2)) = some (.int .i64 x) ∧ W.cell? (a.add (i * 2 + 1)) = some (.int .i64 y) ∧ Fits x ∧ Fits y ∧ V0 i = .int .i64 x ∧ V1 i = .int .i64 y := by
      intro i hi
      obtain ⟨k0, k1, t0, t1⟩ := hcell i hi
      obtain ⟨z0, e0, _, w0⟩ := DataW.trod_int (k := .i64) Try.underlying2 t0
      obtain ⟨z1, e1, _, w1⟩ := DataW.trod_int (k := .i64) Try.underlying2 t1
      injection e0 with e0 _
      injection e1 with e1 _
      exact ⟨z0, z1, by rw [k0, e0], by rw [k1, e1], fits_lit w0, fits_lit w1, e0, e1⟩
    refine ⟨(List.range len).map fun i => (intOf (V0 i), intOf (V1 i)), ⟨some a, m, by simp, by simpa using hl, fun hn => ⟨a, rfl, ?_, fun j hj => ?_⟩⟩, fun g hg => ?_, by simp; omega⟩
    · simp at hn
      obtain ⟨x, y, k0, _⟩ := hz 0 (by omega)
      have h0 := World.block_lt_of_cell? _ _ k0
      rw [block_of_add] at h0
      exact h0
    · simp at hj
      obtain ⟨x, y, k0, k1, _, _, e0, e1⟩ := hz j (by omega)
      simp only [List.getElem_map, List.getElem_range, e0, e1, intOf]
      exact ⟨k0, k1⟩
    · obtain ⟨j, hj, rfl⟩ := List.mem_map.1 hg
      have hj := List.mem_range.1 hj
      obtain ⟨x, y, _, _, f0, f1, e0, e1⟩ := hz j (by omega)
      simp only [e0, e1, intOf]
      exact ⟨f0, f1⟩
end Go.Proofs.Ytljgfallhnlebaa
