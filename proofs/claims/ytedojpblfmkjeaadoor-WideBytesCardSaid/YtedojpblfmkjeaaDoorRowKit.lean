/- What each row of this seat opens and shuts: numbers of two words by value, and the table of powers as the program's text lays it. No condition. -/
import Derived.Test.YtedojpblfmkjeaaDoorFormat
import Derived.Test.YtedojpblfmkjeaaDoorTwo
import Derived.Test.YtedojpblfmkjeaaDoorPost
import Derived.Test.YtedojpblfmkjeaaDoorMem
import Derived.Test.YtedojpblfmkjeaaDoorTie
import Derived.Test.YtedojpblfmkjeaaDoorCards
import Derived.ProofKit
import Derived.OpenShut
import Derived.LaidMore
import Derived.Lay
import Derived.SevenTiedAt
import Derived.Stop.Joined
import Derived.Lib.SmallJoins
import Derived.Lib.LaidTab
import Derived.WideKeyArgs
import Derived.ChangeMaps5
namespace Go.Proofs.YtedojpblfmkjeaaDoor
open Go.RowKit

/-! the table of powers -/
theorem laid_tail {P : Program} {n : String} {d : DataW Unit} {rest : List (String × DataW Unit)} {W : World} (h : laidMet P ((n, d) :: rest) W) : laidMet P rest W := by
  obtain ⟨ps, ⟨g, t, cs, fuel, p, q, hg, ht, hv, hd, hr, hps⟩, hnd, hc⟩ := h
  subst hps
  exact ⟨q, hr, (List.nodup_append.1 hnd).2.1, fun b off hm => hc b off (List.mem_append.2 (Or.inr hm))⟩
theorem pows_of_laid {W : World} (h : laidMetH Tryd.prog [("math/bits.deBruijn32tab", Rows.laid_math_bits_deBruijn32tab), ("math/bits.deBruijn64tab", Rows.laid_math_bits_deBruijn64tab), ("internal/strconv.uint64pow10", Rows.laid_internal_strconv_uint64pow10)] W) : Pows W := by
  rw [MakeChecks.laidMetH_plain _ _ _ (by kernel_rfl)] at h
  have h2 : laidMet Tryd.prog (("internal/strconv.uint64pow10", Lib.tabData .u64 Lib.pow10Tab) :: []) W := laid_tail (laid_tail h)
  exact Lib.tabIs_of_head (g := 2) (t := 114) (e := 22) (n := 20) (by kernel_rfl) (by kernel_rfl) Tryd.underlying114 Tryd.underlying22 (by kernel_rfl) (by kernel_rfl) h2

/-! numbers of two words -/
theorem word_wf {z : Int} (h : (Lit.int .u64 z).wf = true) : 0 ≤ z ∧ z < 18446744073709551616 := by
  simp [Lit.wf, IntKind.min, IntKind.max, IntKind.signed, IntKind.bits] at h
  omega
set_option maxRecDepth 100000 in
open Go.WideShapes Go.ChangeShapes in
theorem open_wide {H : Type} {enc : TypeId × Value → H} {W : World} {base : Nat} {v : Value} {d : DataW H} {p : List MemPlace} (hval : Value.okWide Tryd.prog W .any base 24 v)
    (h : DataW.Trod enc Tryd.prog W 0 (fun _ => true) true 24 v d p) :
    ∃ x : Int, Two x ∧ v = .agg #[.int .i64 ((x) / 18446744073709551616), .int .u64 ((x) % 18446744073709551616)] ∧ d = .agg [.lit (.int .i64 (x / 18446744073709551616)), .lit (.int .u64 (x % 18446744073709551616))] ∧ p = [] ∧ (Lit.int .i64 (x / 18446744073709551616)).wf = true ∧ (Lit.int .u64 (x % 18446744073709551616)).wf = true := by
  obtain ⟨v0, v1, y0, y1, n, rfl, rfl, rfl, h0, h1⟩ := Joins.open_agg2 Tryd.underlying24 (by kernel_rfl) (by kernel_rfl) hval h
  obtain ⟨z0, e0, rfl, w0⟩ := DataW.trod_int (k := .i64) Tryd.underlying2 h0
  obtain ⟨z1, e1, rfl, w1⟩ := DataW.trod_int (k := .u64) Tryd.underlying22 h1
  injection e0 with e0 _
  injection e1 with e1 _
  subst e0; subst e1
  have b1 := word_wf w1
  have f0 := fits_wf w0
  have d0 := two_hi (h := z0) b1.1 b1.2
  have d1 := two_lo (h := z0) b1.1 b1.2
  exact ⟨z0 * 18446744073709551616 + z1, by unfold Two; rw [d0]; exact f0, by rw [d0, d1], by rw [d0, d1], rfl, by rw [d0]; exact w0, by rw [d1]; exact w1⟩
open Go.WideShapes Go.ChangeShapes in
set_option maxRecDepth 100000 in
theorem shut_wide {H : Type} {enc : TypeId × Value → H} {W : World} {base : Nat} {sp : Nat → Bool} {held : Bool} {x : Int} (w0 : (Lit.int .i64 (x / 18446744073709551616)).wf = true) (w1 : (Lit.int .u64 (x % 18446744073709551616)).wf = true) :
    DataW.Trod enc Tryd.prog W base sp held 24 (.agg #[.int .i64 ((x) / 18446744073709551616), .int .u64 ((x) % 18446744073709551616)]) (.agg [.lit (.int .i64 (x / 18446744073709551616)), .lit (.int .u64 (x % 18446744073709551616))]) [] :=
  Joins.shut_agg2 (y0 := (.lit (.int .i64 (x / 18446744073709551616)), [])) (y1 := (.lit (.int .u64 (x % 18446744073709551616)), [])) Tryd.underlying24 (by kernel_rfl) (by kernel_rfl) (shut_int Tryd.underlying2 w0) (shut_int Tryd.underlying22 w1)

/-! lists of longs and of bytes -/
theorem byte_wf {z : Int} (h : (Lit.int .u8 z).wf = true) : 0 ≤ z ∧ z ≤ 255 := by
  simp [Lit.wf, IntKind.min, IntKind.max, IntKind.signed, IntKind.bits] at h
  omega
set_option maxRecDepth 100000 in
open Go.WideShapes Go.ChangeShapes in
theorem open_longs {H : Type} {enc : TypeId × Value → H} {W : World} {base : Nat} {v : Value} {d : DataW H} {p : List MemPlace} (hval : Value.okWide Tryd.prog W .any base 42 v)
    (h : DataW.Trod enc Tryd.prog W 0 (fun _ => true) true 42 v d p) : ∃ zs : List Int, Lst W W.heap.size .i64 v zs ∧ (∀ z ∈ zs, Fits z) ∧ zs.length ≤ 9223372036854775807 := by
  obtain ⟨a0, len, cap, rfl⟩ := okWide_slice Tryd.underlying42 hval
  obtain ⟨fuel, hf⟩ := h
  rcases open_ints Tryd.underlying42 Tryd.underlying2 (by kernel_rfl) hf with ⟨hcs, hx⟩ | ⟨a, len', cap', zs, hcs, _, hl, hm, hz, hx, hcell, hwz⟩
  · simp [Value.cells] at hcs
    obtain ⟨rfl, rfl, rfl⟩ := hcs
    exact ⟨[], Lst.nil _ _ _, fun z hz => (List.not_mem_nil hz).elim, by simp⟩
  · simp [Value.cells] at hcs
    obtain ⟨rfl, rfl, rfl⟩ := hcs
    simp only [if_true] at hz
    unfold maxLen at hm
    have hlen : (zs.take len).length = len := by rw [List.length_take]; omega
    refine ⟨zs.take len, ⟨some a, cap, by rw [hlen], by omega, fun hn => ⟨a, rfl, ?_, fun j hj => ?_⟩⟩, fun z hz => fits_wf (hwz z (List.mem_of_mem_take hz)), by omega⟩
    · have h0 := World.block_lt_of_cell? _ _ (hcell 0 (by omega))
      rw [block_of_add] at h0
      exact h0
    · rw [hlen] at hj
      rw [hcell j (by omega), List.getElem_take, List.getD_eq_getElem?_getD, List.getElem?_eq_getElem (by omega)]
      rfl
set_option maxRecDepth 100000 in
open Go.WideShapes Go.ChangeShapes in
theorem open_bytes {H : Type} {enc : TypeId × Value → H} {W : World} {base : Nat} {v : Value} {d : DataW H} {p : List MemPlace} (hval : Value.okWide Tryd.prog W .any base 59 v)
    (h : DataW.Trod enc Tryd.prog W 0 (fun _ => true) true 59 v d p) : ∃ zs : List Int, Lst W W.heap.size .u8 v zs ∧ (∀ z ∈ zs, 0 ≤ z ∧ z ≤ 255) ∧ zs.length ≤ 9223372036854775807 := by
  obtain ⟨a0, len, cap, rfl⟩ := okWide_slice Tryd.underlying59 hval
  obtain ⟨fuel, hf⟩ := h
  rcases open_ints Tryd.underlying59 Tryd.underlying5 (by kernel_rfl) hf with ⟨hcs, hx⟩ | ⟨a, len', cap', zs, hcs, _, hl, hm, hz, hx, hcell, hwz⟩
  · simp [Value.cells] at hcs
    obtain ⟨rfl, rfl, rfl⟩ := hcs
    exact ⟨[], Lst.nil _ _ _, fun z hz => (List.not_mem_nil hz).elim, by simp⟩
  · simp [Value.cells] at hcs
    obtain ⟨rfl, rfl, rfl⟩ := hcs
    simp only [if_true] at hz
    unfold maxLen at hm
    have hlen : (zs.take len).length = len := by rw [List.length_take]; omega
    refine ⟨zs.take len, ⟨some a, cap, by rw [hlen], by omega, fun hn => ⟨a, rfl, ?_, fun j hj => ?_⟩⟩, fun z hz => byte_wf (hwz z (List.mem_of_mem_take hz)), by omega⟩
    · have h0 := World.block_lt_of_cell? _ _ (hcell 0 (by omega))
      rw [block_of_add] at h0
      exact h0
    · rw [hlen] at hj
      rw [hcell j (by omega), List.getElem_take, List.getD_eq_getElem?_getD, List.getElem?_eq_getElem (by omega)]
      rfl
end Go.Proofs.YtedojpblfmkjeaaDoor
