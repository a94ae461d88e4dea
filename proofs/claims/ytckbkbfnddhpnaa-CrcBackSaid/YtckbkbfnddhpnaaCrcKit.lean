/- What a row of law 7 opens beside lists of numbers: parts, each a list of bytes. -/
import Derived.Test.YtckbkbfnddhpnaaCrcC
import Derived.Test.YtckbkbfnddhpnaaOpens
import Derived.Deep.Matrix
namespace Go.Proofs.Ytckbkbfnddhpnaa
open Go.RowKit

theorem weights_all {H : Type} {P : Program} {e : TypeId} : ∀ {l : List (DataW H)} {d : DataW H}, d ∈ l → ∀ n ∈ d.weights P e, n ∈ DataW.weightsAll P e l
  | d0 :: l, d, hd, n, hn => by
    simp only [DataW.weightsAll, List.mem_append]
    rcases List.mem_cons.1 hd with rfl | hd
    · exact Or.inl hn
    · exact Or.inr (weights_all hd n hn)
  | [], _, hd, _, _ => (List.not_mem_nil hd).elim
/-- How long a list within a list of an argument may be. -/
theorem part_small {H : Type} {P : Program} {ts : List TypeId} {ds : List (DataW H)} (h : (DataW.weightsEach P ts ds).all (· ≤ reachBytes) = true) {j : Nat} {t e q : TypeId} {el sp el' sp' : List (DataW H)} (ht : ts[j]? = some t) (hd : ds[j]? = some (.slice el sp)) (hu : P.underlying t = some (.slice e)) (hq : P.underlying e = some (.slice q)) (hb : P.bytesOf q = 1)
    (hm : DataW.slice el' sp' ∈ el) : el'.length ≤ 140737488355328 := by
  have h1 : (el'.length + sp'.length) * P.bytesOf q ∈ DataW.weights P e (.slice el' sp') := by simp [DataW.weights, hq]
  have h2 : (el'.length + sp'.length) * P.bytesOf q ∈ DataW.weights P t (.slice el sp) := by
    simp only [DataW.weights, hu, List.mem_cons, List.mem_append]
    exact Or.inr (Or.inl (weights_all hm _ h1))
  have h3 := List.all_eq_true.1 h _ (DataW.weights_mem_each ht hd _ h2)
  rw [hb] at h3
  have h4 : reachBytes = 140737488351232 := rfl
  simp at h3
  omega
set_option maxRecDepth 100000 in
open Go.WideShapes Go.ChangeShapes in
theorem open_parts {H : Type} {enc : TypeId × Value → H} {W : World} {base : Nat} {v : Value} {d : DataW H} {p : List MemPlace} {ts : List TypeId} {ds : List (DataW H)} {j : Nat}
    (hval : Value.okWide Try.prog W .any base 22 v) (h : DataW.Trod enc Try.prog W 0 (fun _ => true) true 22 v d p) (hs : (DataW.weightsEach Try.prog ts ds).all (· ≤ reachBytes) = true) (hj : ts[j]? = some 22) (hd : ds[j]? = some d) :
    ∃ ps : List (List Int), LstL W W.heap.size v ps ∧ AllByte ps ∧ (∀ q ∈ ps, q.length ≤ 140737488355328) := by
  obtain ⟨a0, len, cap, rfl⟩ := okWide_slice Try.underlying22 hval
  obtain ⟨fuel, hf⟩ := h
  rcases Deep.open_int_rows Try.underlying22 Try.underlying23 Try.underlying5 (by kernel_rfl) (by kernel_rfl) hf with ⟨hcs, hx⟩ | ⟨a, len', cap', A, L, C, Z, hcs, _, hl, hm, hx, hcell⟩
  · simp [Value.cells] at hcs
    obtain ⟨rfl, rfl, rfl⟩ := hcs
    exact ⟨[], LstL.nil _ _, fun q hq => (List.not_mem_nil hq).elim, fun q hq => (List.not_mem_nil hq).elim⟩
  · simp [Value.cells] at hcs
    obtain ⟨rfl, rfl, rfl⟩ := hcs
    injection hx with hx1 hx2
    subst hx1
    have hlen : ∀ r, r < cap → ((Z r).take (L r)).length = L r := fun r hr => by
      obtain ⟨_, h1, _, h3, _⟩ := hcell r hr
      rw [List.length_take]; omega
    refine ⟨(List.range len).map fun r => (Z r).take (L r), ⟨some a, cap, by simp, by simpa using hl, fun hn => ⟨a, rfl, ?_, fun r hr => ?_⟩⟩, fun q hq => ?_, fun q hq => ?_⟩
    · simp at hn
      have h0 := World.block_lt_of_cell? _ _ (hcell 0 (by omega)).1
      rw [block_of_add] at h0
      exact h0
    · simp at hr
      obtain ⟨h0, h1, h2, h3, h4, h5, h6⟩ := hcell r (by omega)
      refine ⟨_, h0, ?_⟩
      simp only [List.getElem_map, List.getElem_range]
      have hl' := hlen r (by omega)
      refine ⟨A r, C r, by rw [hl'], by omega, fun hn => ?_⟩
      rw [hl'] at hn
      match e : A r with
      | none => have := h5 e; omega
      | some ad =>
        obtain ⟨-, hc⟩ := h6 ad e
        refine ⟨ad, rfl, ?_, fun i hi => ?_⟩
        · have hb := World.block_lt_of_cell? _ _ (hc 0 (by omega))
          rw [block_of_add] at hb
          exact hb
        · rw [hl'] at hi
          rw [hc i (by omega), List.getElem_take, List.getD_eq_getElem?_getD, List.getElem?_eq_getElem (by omega)]
          rfl
    · obtain ⟨r, hr, rfl⟩ := List.mem_map.1 hq
      have hr := List.mem_range.1 hr
      obtain ⟨_, _, _, _, h4, _⟩ := hcell r (by omega)
      exact fun c hc => byte_wf (h4 c (List.mem_of_mem_take hc))
    · obtain ⟨r, hr, rfl⟩ := List.mem_map.1 hq
      have hr' := List.mem_range.1 hr
      obtain ⟨_, h1, _, h3, _, h5, _⟩ := hcell r (by omega)
      match e : A r with
      | none => rw [hlen r (by omega)]; have := h5 e; omega
      | some ad =>
        have := part_small hs hj hd Try.underlying22 Try.underlying23 (by kernel_rfl) (el' := lits .u8 ((Z r).take (L r))) (sp' := lits .u8 ((Z r).drop (L r))) (List.mem_map.2 ⟨r, hr, by rw [e]; rfl⟩)
        simpa [lits] using this
end Go.Proofs.Ytckbkbfnddhpnaa
