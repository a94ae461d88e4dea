/- A product of whole numbers, walked: both signs. -/
import Derived.Test.YtmafkknnekkcdaaRefF
import Derived.Test.YtmafkknnekkcdaaRefH0
namespace Go.Proofs.Ytmafkknnekkcdaa
open Go.RowKit

theorem mulN_any (r u : Value) (x y : Int) (w : World) (L : Nat) (hx : NumV w r x) (hy : NumV w u y) (lx : mag x < 65536 ^ L) (ly : mag y < 65536 ^ L) (hL : L ≤ 1000) :
    Calls Try.prog 42 #[r, u] w (GivesN w (x * y)) := by
  obtain ⟨s, A, n, c, rfl, hs, xs, ha, hxn, hxv⟩ := hx.form
  obtain ⟨t, A', n', c', rfl, ht, ys, hb, hyn, hyv⟩ := hy.form
  obtain ⟨A1, c1, e⟩ := ha.1.len
  injection e with e1 e2 e3
  subst e2
  obtain ⟨A2, c2, e⟩ := hb.1.len
  injection e with e1 e2 e3
  subst e2
  have l1 := hxn.len ha.2 (by rw [hxv]; exact lx)
  have l2 := hyn.len hb.2 (by rw [hyv]; exact ly)
  have h := mul_rows s t A A' c c' xs ys w ha hb (by omega) (by omega)
  rw [hxv, hyv, hs.out, ht.out, ← mag_mul] at h
  rw [hs.out, ht.out]
  exact h
end Go.Proofs.Ytmafkknnekkcdaa
