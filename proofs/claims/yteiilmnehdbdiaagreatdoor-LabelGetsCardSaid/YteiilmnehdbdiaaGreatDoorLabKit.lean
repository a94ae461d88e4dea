/- What a row of law 8 opens: a series, a label, a text. -/
import Derived.Test.YteiilmnehdbdiaaGreatDoorLabC
import Derived.Test.YteiilmnehdbdiaaGreatDoorOpens
import Derived.ProofKit
import Derived.Lib.SmallJoins
import Derived.WideKeyArgs
import Derived.ChangeMaps5
import Derived.Deep.SlicePairs
namespace Go.Proofs.YteiilmnehdbdiaaGreatDoor
open Go.RowKit

theorem trod_text {H : Type} {enc : TypeId × Value → H} {P : Program} {W : World} {base : Nat} {sp : Nat → Bool} {held : Bool} {n : Nat} {t : TypeId} {v : Value} {y : DataW H × List MemPlace} (ht : P.underlying t = some .string) (h : DataW.trod enc P W base sp held n t [v] = some y) : ∃ s : ByteArray, v = .string s := by
  cases n with
  | zero => simp [DataW.trod] at h
  | succ n =>
    cases v <;> simp [DataW.trod, ht] at h
    exact ⟨_, rfl⟩
set_option maxRecDepth 100000 in
open Go.WideShapes Go.ChangeShapes in
theorem open_labels {H : Type} {enc : TypeId × Value → H} {W : World} {n : Nat} {v : Value} {y : DataW H × List MemPlace} (hf : DataW.trod enc Tryz.prog W 0 (fun _ => true) true n 22 [v] = some y) : ∃ x : List Lab, Labs W W.heap.size v x := by
  rcases Deep.open_slice_pairs Tryz.underlying22 Tryz.underlying45 (by kernel_rfl) rfl rfl (by kernel_rfl) (by kernel_rfl) hf with ⟨hcs, hx⟩ | ⟨a, len, cap, m, k, V0, V1, D0, D1, P0, P1, hcs, _, hl, hm, hmm, hx, hcell⟩
  · injection hcs with hcs _
    subst hcs
    exact ⟨[], Labs.nil _ _⟩
  · injection hcs with hcs _
    subst hcs
    simp only [if_true] at hmm
    subst hmm
    have hz : ∀ i, i < m → ∃ s t : ByteArray, W.cell? (a.add (i * 2)) = some (.string s) ∧ W.cell? (a.add (i * 2 + 1)) = some (.string t) := by
      intro i hi
      obtain ⟨k0, k1, t0, t1⟩ := hcell i hi
      obtain ⟨s, e0⟩ := trod_text Tryz.underlying9 t0
      obtain ⟨t, e1⟩ := trod_text Tryz.underlying9 t1
      exact ⟨s, t, by rw [k0, e0], by rw [k1, e1]⟩
    let str : Value → ByteArray := fun v => match v with | .string s => s | _ => ByteArray.empty
    refine ⟨(List.range len).map fun i => (str ((W.cell? (a.add (i * 2))).getD undef), str ((W.cell? (a.add (i * 2 + 1))).getD undef)), some a, m, by simp, by simpa using hl, fun hn => ⟨a, rfl, ?_, fun j hj => ?_⟩⟩
    · simp at hn
      obtain ⟨s, t, k0, _⟩ := hz 0 (by omega)
      have h0 := World.block_lt_of_cell? _ _ k0
      rw [block_of_add] at h0
      exact h0
    · simp at hj
      obtain ⟨s, t, k0, k1⟩ := hz j (by omega)
      simp only [List.getElem_map, List.getElem_range, k0, k1, Option.getD_some]
      exact ⟨rfl, rfl⟩
set_option maxRecDepth 100000 in
open Go.WideShapes Go.ChangeShapes in
theorem open_series {H : Type} {enc : TypeId × Value → H} {W : World} {base : Nat} {v : Value} {d : DataW H} {p : List MemPlace} (hval : Value.okWide Tryz.prog W .any base 24 v)
    (h : DataW.Trod enc Tryz.prog W 0 (fun _ => true) true 24 v d p) : ∃ (n : ByteArray) (u : Value) (x : List Lab), v = .agg #[.string n, u] ∧ Labs W W.heap.size u x := by
  obtain ⟨v0, v1, y0, y1, n, rfl, rfl, rfl, h0, h1⟩ := Joins.open_agg2 Tryz.underlying24 (by kernel_rfl) (by kernel_rfl) hval h
  obtain ⟨s, rfl⟩ := trod_text Tryz.underlying9 h0
  obtain ⟨x, hx⟩ := open_labels h1
  exact ⟨s, v1, x, rfl, hx⟩
set_option maxRecDepth 100000 in
open Go.WideShapes Go.ChangeShapes in
theorem open_label {H : Type} {enc : TypeId × Value → H} {W : World} {base : Nat} {v : Value} {d : DataW H} {p : List MemPlace} (hval : Value.okWide Tryz.prog W .any base 45 v)
    (h : DataW.Trod enc Tryz.prog W 0 (fun _ => true) true 45 v d p) : ∃ s t : ByteArray, v = .agg #[.string s, .string t] := by
  obtain ⟨v0, v1, y0, y1, n, rfl, rfl, rfl, h0, h1⟩ := Joins.open_agg2 Tryz.underlying45 (by kernel_rfl) (by kernel_rfl) hval h
  obtain ⟨s, rfl⟩ := trod_text Tryz.underlying9 h0
  obtain ⟨t, rfl⟩ := trod_text Tryz.underlying9 h1
  exact ⟨s, t, rfl⟩
set_option maxRecDepth 100000 in
open Go.WideShapes Go.ChangeShapes in
theorem open_text1 {H : Type} {enc : TypeId × Value → H} {W : World} {base : Nat} {v : Value} {d : DataW H} {p : List MemPlace} (hval : Value.okWide Tryz.prog W .any base 9 v)
    (h : DataW.Trod enc Tryz.prog W 0 (fun _ => true) true 9 v d p) : ∃ s : ByteArray, v = .string s := by
  obtain ⟨S, rfl, -⟩ := Go.ChangeMaps.open_string Tryz.underlying9 hval h
  exact ⟨S, rfl⟩
end Go.Proofs.YteiilmnehdbdiaaGreatDoor
