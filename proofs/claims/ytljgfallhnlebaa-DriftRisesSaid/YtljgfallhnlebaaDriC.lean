/- What law 4 asks of package drift, in one structure: to be filled on the landed code; the guard, walked from it. -/
import Derived.Test.YtljgfallhnlebaaDriL
import Derived.Test.YtljgfallhnlebaaDriO
namespace Go.Proofs.Ytljgfallhnlebaa
open Go.RowKit

structure DriftC : Prop where
  low : ∀ x r w, Fits x → Fits r → Calls Try.prog 9 #[.int .i64 x, .int .i64 r] w fun e w' => TwoE (lowP x r) e ∧ Below w.heap.size w w'
  high : ∀ x r w, Fits x → Fits r → Calls Try.prog 10 #[.int .i64 x, .int .i64 r] w fun e w' => TwoE (highP x r) e ∧ Below w.heap.size w w'
  slack : ∀ x r w, Fits x → Fits r → Calls Try.prog 11 #[.int .i64 x, .int .i64 r] w fun e w' => TwoE (slackP x r) e ∧ Below w.heap.size w w'
  honest : ∀ r v gs w, Fits r → Gaps w w.heap.size v gs → (∀ g ∈ gs, Fits g.1 ∧ Fits g.2) → gs.length ≤ 1000000 → Calls Try.prog 15 #[.int .i64 r, v] w fun e w' => e = .returned (.bool (honestB r gs)) ∧ Below w.heap.size w w'
  least : ∀ v gs w, Gaps w w.heap.size v gs → (∀ g ∈ gs, Fits g.1 ∧ Fits g.2) → gs.length ≤ 1000000 → Calls Try.prog 16 #[v] w fun e w' => NumB (leastI gs) e ∧ Below w.heap.size w w'

theorem least_two : leastI [(5, 7), (105, 110)] = (20000, true) := by
  refine leastI_some (by omega) (by omega) (by decide) fun j h1 h2 => ?_
  cases hb : honestB j [(5, 7), (105, 110)] with
  | false => rfl
  | true =>
    have h := honest_more (show j ≤ 19999 by omega) (by omega) hb
    exact absurd h (by decide)

set_option maxRecDepth 100000 in
set_option maxHeartbeats 4000000 in
theorem alive4_any (G : DriftC) (w : World) :
    Calls Try.prog 8 #[] w fun e w' => e = .returned (.bool true) ∧ Below w.heap.size w w' := by
  have C1 := Lib.hid fun W => G.low 101 10000 W (by decide) (by decide)
  have C2 := Lib.hid fun W => G.high 0 10000 W (by decide) (by decide)
  have C3 := Lib.hid fun W => G.slack 100 10000 W (by decide) (by decide)
  have C4 := Lib.hid fun W => G.low 1 100001 W (by decide) (by decide)
  have hF : ∀ g ∈ [((5 : Int), (7 : Int)), (105, 110)], Fits g.1 ∧ Fits g.2 := by decide
  have C5 := Lib.hid fun g W (hg : Hid (g = W.heap.size)) => G.least (.slice (some ⟨g, 0, none⟩) 2 2) [(5, 7), (105, 110)] (W.alloc (.cells #[.int .i64 5, .int .i64 7, .int .i64 105, .int .i64 110] 36)) (Gaps.fresh W _ _ [(5, 7), (105, 110)] rfl g hg) hF (show 2 ≤ 1000000 by decide)
  have C6 := Lib.hid fun g W (hg : Hid (g = W.heap.size)) => G.honest 20000 (.slice (some ⟨g, 0, none⟩) 2 2) [(5, 7), (105, 110)] (W.alloc (.cells #[.int .i64 5, .int .i64 7, .int .i64 105, .int .i64 110] 36)) (by decide) (Gaps.fresh W _ _ [(5, 7), (105, 110)] rfl g hg) hF (show 2 ≤ 1000000 by decide)
  have C7 := Lib.hid fun g W (hg : Hid (g = W.heap.size)) => G.honest 19999 (.slice (some ⟨g, 0, none⟩) 2 2) [(5, 7), (105, 110)] (W.alloc (.cells #[.int .i64 5, .int .i64 7, .int .i64 105, .int .i64 110] 36)) (by decide) (Gaps.fresh W _ _ [(5, 7), (105, 110)] rfl g hg) hF (show 2 ≤ 1000000 by decide)
  rw [show lowP 101 10000 = (100, 0) by decide] at C1
  rw [show highP 0 10000 = (1, 0) by decide] at C2
  rw [show slackP 100 10000 = (2, 0) by decide] at C3
  rw [show lowP 1 100001 = (0, 11) by decide] at C4
  rw [least_two] at C5
  rw [show honestB 20000 [(5, 7), (105, 110)] = true by decide] at C6
  rw [show honestB 19999 [(5, 7), (105, 110)] = false by decide] at C7
  unfold TwoE at C1 C2 C3 C4
  unfold NumB at C5
  dsimp only at C1 C2 C3 C4 C5
  clear G hF
  have hB := Below.refl w.heap.size w
  go_enter Try.func8, Try.ntmps8
  go_wp2_with fail
  refine (C1.out _).mono ?_; rintro e w1 ⟨rfl, h⟩
  replace hB := ext_step hB h
  go_wp2_with fail
  refine (C2.out _).mono ?_; rintro e w2 ⟨rfl, h⟩
  replace hB := ext_step hB h
  go_wp2_with fail
  refine (C3.out _).mono ?_; rintro e w3 ⟨rfl, h⟩
  replace hB := ext_step hB h
  go_wp2_with fail
  refine (C4.out _).mono ?_; rintro e w4 ⟨rfl, h⟩
  replace hB := ext_step hB h
  clear h
  go_wp2_with fail
  replace hB := ext_alloc hB (.cells #[.int .i64 5, .int .i64 7, .int .i64 105, .int .i64 110] 36)
  refine (C5.out _ _ (Lib.hid rfl)).mono ?_; rintro e w5 ⟨rfl, h⟩
  replace hB := ext_step hB h
  clear h
  go_wp2_with fail
  replace hB := ext_alloc hB (.cells #[.int .i64 5, .int .i64 7, .int .i64 105, .int .i64 110] 36)
  refine (C6.out _ _ (Lib.hid rfl)).mono ?_; rintro e w6 ⟨rfl, h⟩
  replace hB := ext_step hB h
  clear h
  go_wp2_with fail
  replace hB := ext_alloc hB (.cells #[.int .i64 5, .int .i64 7, .int .i64 105, .int .i64 110] 36)
  refine (C7.out _ _ (Lib.hid rfl)).mono ?_; rintro e w7 ⟨rfl, h⟩
  replace hB := ext_step hB h
  go_wp2_with fail
  go_ret
  exact ⟨rfl, hB⟩
end Go.Proofs.Ytljgfallhnlebaa
