/- Products and quotients of whole numbers with a sign, as contracts; how great they are. -/
import Derived.Test.YtedojpblfmkjeaaDoorRefG
namespace Go.Proofs.YtedojpblfmkjeaaDoor
open Go.RowKit

theorem mulN_any (r u : Value) (x y : Int) (w : World) (L : Nat) (hx : NumV w r x) (hy : NumV w u y) (lx : mag x < 65536 ^ L) (ly : mag y < 65536 ^ L) (hL : L ≤ 1000) :
    Calls Tryd.prog 19 #[r, u] w (GivesN w (x * y)) := by
  obtain ⟨s, A, n, c, rfl, hs, xs, ha, hxn, hxv⟩ := hx.form
  obtain ⟨t, A', n', c', rfl, ht, ys, hb, hyn, hyv⟩ := hy.form
  obtain ⟨A1, c1, e⟩ := ha.1.len
  injection e with e1 e2 e3
  subst e2
  obtain ⟨A2, c2, e⟩ := hb.1.len
  injection e with e1 e2 e3
  subst e2
  have l1 := hxn.len ha.2 (by rw [hxv]; exact lx)
  have l2 := hyn.len hb.2 (by rw [hyv]; exact ly)
  have h := mul_rows s t A A' c c' xs ys w ha hb (by omega) (by omega)
  rw [hxv, hyv, hs.out, ht.out, ← mag_mul] at h
  rw [hs.out, ht.out]
  exact h
/-- A number divided, down or up. -/
def divI (x n : Int) (up : Bool) : Int := if up then -((-x) / n) else x / n
theorem divI_mul (a b c : Int) (up : Bool) : divI (a * b) c up = rquo a b c up := rfl
theorem away_div {x n : Int} (hn : 0 < n) (up : Bool) : sided (decide (x < 0)) (awayQ (mag x) n (decide (x < 0)) up) = divI x n up := by
  by_cases hx : x < 0
  · obtain ⟨m, rfl⟩ : ∃ m, x = -m := ⟨-x, by omega⟩
    have hm : 0 < m := by omega
    rw [mag_neg hx, decide_eq_true hx, Int.neg_neg]
    unfold awayQ divI
    by_cases hr : m % n = 0
    · have e := neg_div_exact hn hr
      cases up <;> simp [hr, sided, e]
    · have e := neg_div_over hn hr
      cases up <;> simp [hr, sided, e]
  · rw [mag_pos hx, decide_eq_false hx]
    unfold awayQ divI
    by_cases hr : x % n = 0
    · have e := neg_div_exact hn hr
      cases up <;> simp [hr, sided, e]
    · have e := neg_div_over hn hr
      cases up <;> simp [hr, sided, e]
theorem divN_any (r u : Value) (x n : Int) (up : Bool) (w : World) (L : Nat) (hx : NumV w r x) (hy : NumV w u n) (lx : mag x < 65536 ^ L) (hn : 0 < n) (ln : n < 65536 ^ L) (hL : L ≤ 1000) :
    Calls Tryd.prog 52 #[r, u, .bool up] w (GivesN w (divI x n up)) := by
  obtain ⟨s, A, k, c, rfl, hs, xs, ha, hxn, hxv⟩ := hx.form
  obtain ⟨t, A', k', c', rfl, ht, hb⟩ := hy.form
  obtain ⟨A1, c1, e⟩ := ha.1.len
  injection e with e1 e2 e3
  subst e2
  rw [mag_pos (by omega)] at hb
  have l1 := hxn.len ha.2 (by rw [hxv]; exact lx)
  have h := div_rows s t up A A' c c' k' xs n w L ha hb (by omega) (by rw [hxv]; exact lx) hn ln hL
  rw [hxv, hs.out, away_div hn] at h
  rw [hs.out]
  exact h
theorem mag_long {x : Int} (h : Fits x) : mag x < 65536 ^ 4 := by rw [pow4]; have := mag_bd h; omega
theorem pow8 : (65536 : Int) ^ 8 = 340282366920938463463374607431768211456 := by decide
theorem mag_prod {a b : Int} (ha : Fits a) (hb : Fits b) : mag (a * b) < 65536 ^ 8 := by
  have h1 := mag_bd ha
  have h2 := mag_bd hb
  have e : mag (a * b) = mag a * mag b := by
    rw [mag_mul]
    have := mag_mul_nonneg ha hb
    generalize mag a * mag b = m at *
    unfold mag sided
    cases (decide (a < 0) != decide (b < 0)) <;> simp <;> omega
  have h3 : mag a * mag b ≤ 9223372036854775808 * mag b := Int.mul_le_mul_of_nonneg_right h1.2 h2.1
  rw [e, pow8]; omega
theorem mag_sided {neg : Bool} {q : Int} (h : 0 ≤ q) : mag (sided neg q) = q := by
  unfold mag sided; cases neg <;> simp <;> omega
theorem mag_rquo {a b c : Int} (up : Bool) (ha : Fits a) (hb : Fits b) (hc : 1 ≤ c) : mag (rquo a b c up) < 65536 ^ 8 := by
  have hn := mag_mul_nonneg ha hb
  have h1 := mag_bd ha
  have h2 := mag_bd hb
  have h3 : mag a * mag b ≤ 9223372036854775808 * mag b := Int.mul_le_mul_of_nonneg_right h1.2 h2.1
  have q0 : 0 ≤ mag a * mag b / c := Int.ediv_nonneg hn (by omega)
  have q1 := Int.ediv_le_self c hn
  rw [pow8]
  by_cases hr : mag a * mag b % c = 0
  · rw [rquo_even (by omega) hr, mag_sided q0]; omega
  · by_cases hu : (decide (a < 0) != decide (b < 0)) = up
    · rw [rquo_in hu, mag_sided q0]; omega
    · have hu' : (decide (a < 0) != decide (b < 0)) = !up := by revert hu; cases (decide (a < 0) != decide (b < 0)) <;> cases up <;> simp
      rw [rquo_out (by omega) hr hu', mag_sided (by omega)]; omega
end Go.Proofs.YtedojpblfmkjeaaDoor
