/- That the package answers some fixed calls as asked: the walk of the guard that each law begins with. -/
import Derived.Test.YtncankjgmchckaaRatio
import Derived.Test.YtncankjgmchckaaSum
namespace Go.Proofs.Ytncankjgmchckaa
open Go.RowKit

theorem fit_small {x : Int} (h0 : -9223372036854775808 ≤ x) (h1 : x ≤ 9223372036854775807) : Fits x := ⟨h0, h1⟩
set_option maxRecDepth 100000 in
set_option maxHeartbeats 1000000 in
theorem alive_any (w : World) : Calls Try.prog 8 #[] w fun e w' => e = .returned (.bool true) ∧ Below w.heap.size w w' := by
  have c1 : ∀ W : World, Calls Try.prog 9 #[.int .i64 4611686018427387904, .int .i64 4611686018427387904] W fun e w' => e = .returned (.tuple #[.int .i64 0, .int .i64 12]) ∧ W = w' :=
    fun W => add_any 4611686018427387904 4611686018427387904 (by decide) (by decide) W
  have c2 : ∀ W : World, Calls Try.prog 10 #[.int .i64 3, .int .i64 5] W fun e w' => e = .returned (.tuple #[.int .i64 (-2), .int .i64 0]) ∧ W = w' :=
    fun W => sub_any 3 5 (by decide) (by decide) W
  have c3 : ∀ W : World, Calls Try.prog 11 #[.int .i64 (-3), .int .i64 5] W fun e w' => e = .returned (.tuple #[.int .i64 (-15), .int .i64 0]) ∧ W = w' :=
    fun W => mul_any (-3) 5 (by decide) (by decide) W
  have c4 : ∀ W : World, W = w.alloc (.cells #[.int .i64 4611686018427387904, .int .i64 4611686018427387904, .int .i64 (-1)] 2) → Calls Try.prog 16 #[.slice (some ⟨w.heap.size, 0, none⟩) 3 3] W fun e w' => e = .returned (.tuple #[.int .i64 9223372036854775807, .int .i64 0]) ∧ W = w' := fun W hW => by
    subst hW
    have h := sum_any (.slice (some ⟨w.heap.size, 0, none⟩) 3 3) [4611686018427387904, 4611686018427387904, -1] (w.alloc (.cells #[.int .i64 4611686018427387904, .int .i64 4611686018427387904, .int .i64 (-1)] 2)) (by rw [World.size_alloc]; exact Lst.new (k := .i64) (zs := [4611686018427387904, 4611686018427387904, -1]) w _ _ rfl) (by decide) (by decide)
    exact h
  have c5 : ∀ W : World, Calls Try.prog 19 #[.int .i64 7, .int .i64 3, .int .i64 2, .bool true] W fun e w' => e = .returned (.tuple #[.int .i64 11, .int .i64 0]) ∧ ∃ n, W.drewN n = w' :=
    fun W => ratio_any 7 3 2 true (by decide) (by decide) (by decide) W
  have c6 : ∀ W : World, Calls Try.prog 19 #[.int .i64 (-7), .int .i64 3, .int .i64 2, .bool false] W fun e w' => e = .returned (.tuple #[.int .i64 (-11), .int .i64 0]) ∧ ∃ n, W.drewN n = w' :=
    fun W => ratio_any (-7) 3 2 false (by decide) (by decide) (by decide) W
  have c7 : ∀ W : World, Calls Try.prog 19 #[.int .i64 1, .int .i64 1, .int .i64 0, .bool false] W fun e w' => e = .returned (.tuple #[.int .i64 0, .int .i64 11]) ∧ ∃ n, W.drewN n = w' :=
    fun W => ratio_any 1 1 0 false (by decide) (by decide) (by decide) W
  have c8 : ∀ W : World, Calls Try.prog 21 #[.int .i64 9, .int .i64 1, .int .i64 5] W fun e w' => e = .returned (.int .i64 5) ∧ W = w' := fun W => clamp_any 9 1 5 W
  have c9 : ∀ W : World, Calls Try.prog 21 #[.int .i64 0, .int .i64 1, .int .i64 5] W fun e w' => e = .returned (.int .i64 1) ∧ W = w' := fun W => clamp_any 0 1 5 W
  have c10 : ∀ W : World, Calls Try.prog 21 #[.int .i64 3, .int .i64 1, .int .i64 5] W fun e w' => e = .returned (.int .i64 3) ∧ W = w' := fun W => clamp_any 3 1 5 W
  have C1 := Lib.hid c1; have C2 := Lib.hid c2; have C3 := Lib.hid c3; have C4 := Lib.hid c4; have C5 := Lib.hid c5; have C6 := Lib.hid c6; have C7 := Lib.hid c7; have C8 := Lib.hid c8; have C9 := Lib.hid c9; have C10 := Lib.hid c10
  clear c1 c2 c3 c4 c5 c6 c7 c8 c9 c10
  go_enter Try.func8, Try.ntmps8
  go_wp2_with fail
  refine (C1.out _).mono ?_; rintro e w' ⟨rfl, rfl⟩
  go_wp2_with fail
  refine (C2.out _).mono ?_; rintro e w' ⟨rfl, rfl⟩
  go_wp2_with fail
  refine (C3.out _).mono ?_; rintro e w' ⟨rfl, rfl⟩
  go_wp2_with fail
  refine (C4.out _ rfl).mono ?_; rintro e w' ⟨rfl, rfl⟩
  go_wp2_with fail
  refine (C5.out _).mono ?_; rintro e w' ⟨rfl, n5, rfl⟩
  go_wp2_with fail
  refine (C6.out _).mono ?_; rintro e w' ⟨rfl, n6, rfl⟩
  go_wp2_with fail
  refine (C7.out _).mono ?_; rintro e w' ⟨rfl, n7, rfl⟩
  go_wp2_with fail
  refine (C8.out _).mono ?_; rintro e w' ⟨rfl, rfl⟩
  go_wp2_with fail
  refine (C9.out _).mono ?_; rintro e w' ⟨rfl, rfl⟩
  go_wp2_with fail
  refine (C10.out _).mono ?_; rintro e w' ⟨rfl, rfl⟩
  go_wp2_with fail
  go_ret
  exact ⟨rfl, below_drewN (below_new _ _) _⟩
end Go.Proofs.Ytncankjgmchckaa
