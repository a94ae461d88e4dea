/- Sums of the first numbers of a list, and how great they are. -/
import Derived.Test.YtmafkknnekkcdaaNum
namespace Go.Proofs.Ytmafkknnekkcdaa
open Go.RowKit

/-- The sum of the first k. -/
def psum (zs : List Int) (k : Nat) : Int := (zs.take k).sum
theorem psum_zero (zs : List Int) : psum zs 0 = 0 := by simp [psum]
theorem psum_succ (zs : List Int) (k : Nat) (h : k < zs.length) : psum zs (k + 1) = psum zs k + zs[k] := by
  unfold psum
  rw [List.take_succ_eq_append_getElem h, List.sum_append]; simp
theorem psum_all (zs : List Int) : psum zs zs.length = zs.sum := by simp [psum]
theorem psum_bd (zs : List Int) (hf : ∀ z ∈ zs, Fits z) : ∀ k : Nat, k ≤ zs.length → -(9223372036854775808 * (k : Int)) ≤ psum zs k ∧ psum zs k ≤ 9223372036854775808 * (k : Int)
  | 0, _ => by simp [psum]
  | k + 1, h => by
    have ih := psum_bd zs hf k (by omega)
    have := hf zs[k] (List.getElem_mem _)
    rw [psum_succ zs k (by omega)]
    unfold Fits at this
    omega
end Go.Proofs.Ytmafkknnekkcdaa
