/- A quotient of whole numbers rounded down or up, walked: both signs. -/
import Derived.Test.YtmafkknnekkcdaaRefG
import Derived.Test.YtmafkknnekkcdaaRefH0
namespace Go.Proofs.Ytmafkknnekkcdaa
open Go.RowKit

/-- A number divided, down or up. -/
def divI (x n : Int) (up : Bool) : Int := if up then -((-x) / n) else x / n
theorem divI_mul (a b c : Int) (up : Bool) : divI (a * b) c up = rquo a b c up := rfl
theorem away_div {x n : Int} (hn : 0 < n) (up : Bool) : sided (decide (x < 0)) (awayQ (mag x) n (decide (x < 0)) up) = divI x n up := by
  by_cases hx : x < 0
  · obtain ⟨m, rfl⟩ : ∃ m, x = -m := ⟨-x, by omega⟩
    have hm : 0 < m := by omega
    rw [mag_neg hx, decide_eq_true hx, Int.neg_neg]
    unfold awayQ divI
    by_cases hr : m % n = 0
    · have e := neg_div_exact hn hr
      cases up <;> simp [hr, sided, e]
    · have e := neg_div_over hn hr
      cases up <;> simp [hr, sided, e]
  · rw [mag_pos hx, decide_eq_false hx]
    unfold awayQ divI
    by_cases hr : x % n = 0
    · have e := neg_div_exact hn hr
      cases up <;> simp [hr, sided, e]
    · have e := neg_div_over hn hr
      cases up <;> simp [hr, sided, e]
theorem divN_any (r u : Value) (x n : Int) (up : Bool) (w : World) (L : Nat) (hx : NumV w r x) (hy : NumV w u n) (lx : mag x < 65536 ^ L) (hn : 0 < n) (ln : n < 65536 ^ L) (hL : L ≤ 1000) :
    Calls Try.prog 40 #[r, u, .bool up] w (GivesN w (divI x n up)) := by
  obtain ⟨s, A, k, c, rfl, hs, xs, ha, hxn, hxv⟩ := hx.form
  obtain ⟨t, A', k', c', rfl, ht, hb⟩ := hy.form
  obtain ⟨A1, c1, e⟩ := ha.1.len
  injection e with e1 e2 e3
  subst e2
  rw [mag_pos (by omega)] at hb
  have l1 := hxn.len ha.2 (by rw [hxv]; exact lx)
  have h := div_rows s t up A A' c c' k' xs n w L ha hb (by omega) (by rw [hxv]; exact lx) hn ln hL
  rw [hxv, hs.out, away_div hn] at h
  rw [hs.out]
  exact h
end Go.Proofs.Ytmafkknnekkcdaa
