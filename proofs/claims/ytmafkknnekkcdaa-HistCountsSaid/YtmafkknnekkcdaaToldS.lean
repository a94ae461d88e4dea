/- What the document's own sum of longs answers. -/
import Derived.Test.YtmafkknnekkcdaaTold0
import Derived.Test.YtmafkknnekkcdaaRefI
namespace Go.Proofs.Ytmafkknnekkcdaa
open Go.RowKit

set_option maxHeartbeats 1000000 in
theorem refSum_any (v : Value) (zs : List Int) (w : World) (hl : Lst w w.heap.size .i64 v zs) (hf : ∀ z ∈ zs, Fits z) (hn : zs.length ≤ 1000000) :
    Calls Try.prog 33 #[v] w (Told zs.sum w) := by
  have C1 := Lib.hid (total_any v zs w hl hf hn)
  have HM := Lib.hid (mag_psum hf (Nat.le_refl _) hn)
  clear hl hf
  go_enter Try.func33, Try.ntmps33
  go_wp2_with fail
  refine (C1.out).mono ?_; rintro e w1 ⟨r1, rfl, hr1, hb1⟩
  go_wp2_with fail
  refine (told_any r1 zs.sum w1 8 hr1 (by rw [← psum_all]; exact HM.out)).mono ?_; rintro e w2 ⟨rfl, hb2⟩
  have hz := hb1.trans (hb2.mono hb1.size)
  clear hr1 hb1 hb2
  go_wp2_with fail
  go_ret2
  exact ⟨rfl, hz⟩
end Go.Proofs.Ytmafkknnekkcdaa
