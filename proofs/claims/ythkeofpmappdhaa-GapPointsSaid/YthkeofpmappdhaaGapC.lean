/- What law 3 asks of package gap, in one structure: to be filled on the landed code. -/
import Derived.Test.YthkeofpmappdhaaGapM
import Derived.Test.YthkeofpmappdhaaGapN
import Derived.Test.YthkeofpmappdhaaGapH
import Derived.Test.YthkeofpmappdhaaGapL
namespace Go.Proofs.Ythkeofpmappdhaa
open Go.RowKit

/-- A gap as a value. -/
abbrev gapV (a b : Int) : Value := .agg #[.int .i64 a, .int .i64 b]
theorem Gaps.new (w : World) (t : TypeId) (cs : Array Value) (gs : List (Int × Int)) (hcs : cs = (cellsG gs).toArray) : Gaps (w.alloc (.cells cs t)) (w.alloc (.cells cs t)).heap.size (.slice (some ⟨w.heap.size, 0, none⟩) gs.length gs.length) gs := by
  subst hcs
  rw [World.size_alloc]
  refine ⟨_, _, rfl, Nat.le_refl _, fun hn => ⟨_, rfl, Nat.lt_succ_self _, fun j hj => ?_⟩⟩
  have e : ∀ j, (Addr.mk w.heap.size 0 none).add j = ⟨w.heap.size, j, none⟩ := fun j => by unfold Addr.add; split <;> simp_all
  obtain ⟨h0, h1⟩ := cellsG_at gs j hj
  rw [e, e, World.cell?_alloc_new, World.cell?_alloc_new]
  exact ⟨by simpa using h0, by simpa using h1⟩
structure GapC : Prop where
  new : ∀ a b w, Fits a → Fits b → Calls Try.prog 8 #[.int .i64 a, .int .i64 b] w fun e w' => e = .returned (.tuple #[gapV (if a ≤ b then a else 0) (if a ≤ b then b else 0), .bool (decide (a ≤ b))]) ∧ Below w.heap.size w w'
  right : ∀ a b w, Calls Try.prog 14 #[gapV a b] w fun e w' => e = .returned (.bool (decide (a ≤ b))) ∧ Below w.heap.size w w'
  has : ∀ a b x w, Calls Try.prog 17 #[gapV a b, .int .i64 x] w fun e w' => e = .returned (.bool (decide (a ≤ x ∧ x ≤ b))) ∧ Below w.heap.size w w'
  within : ∀ a b c d w, Calls Try.prog 18 #[gapV a b, gapV c d] w fun e w' => e = .returned (.bool (decide (a ≤ b ∧ c ≤ a ∧ b ≤ d))) ∧ Below w.heap.size w w'
  width : ∀ a b w, Fits a → Fits b → Calls Try.prog 19 #[gapV a b] w fun e w' => e = .returned (.int .u64 (if a ≤ b then b - a else 0)) ∧ Below w.heap.size w w'
  mid : ∀ a b w, Fits a → Fits b → Calls Try.prog 15 #[gapV a b] w fun e w' => e = .returned (.int .i64 (midI a b)) ∧ Below w.heap.size w w'
  shift : ∀ a b x w, Fits a → Fits b → Fits x → Calls Try.prog 9 #[gapV a b, .int .i64 x] w fun e w' => GapE (shiftI a b x) e ∧ Below w.heap.size w w'
  grow : ∀ a b x y w, Fits a → Fits b → Fits x → Fits y → Calls Try.prog 10 #[gapV a b, .int .i64 x, .int .i64 y] w fun e w' => GapE (growI a b x y) e ∧ Below w.heap.size w w'
  meet : ∀ v gs w, Gaps w w.heap.size v gs → (∀ g ∈ gs, Fits g.1 ∧ Fits g.2) → gs.length ≤ 1000000 → Calls Try.prog 20 #[v] w fun e w' => GapE (meetI gs) e ∧ Below w.heap.size w w'
  hull : ∀ v gs w, Gaps w w.heap.size v gs → (∀ g ∈ gs, Fits g.1 ∧ Fits g.2) → gs.length ≤ 1000000 → Calls Try.prog 21 #[v] w fun e w' => GapE (hullI gs) e ∧ Below w.heap.size w w'
theorem gcall_as {P : Program} {f : FuncId} {args args' : Array Value} {w : World} {Q Q' : Ending → World → Prop} (h : Calls P f args w Q) (ha : args = args') (hq : ∀ e w', Q e w' → Q' e w') : Calls P f args' w Q' := by
  subst ha; exact h.mono hq

set_option maxRecDepth 100000 in
theorem alive3_N1 (G : GapC) (W : World) : Calls Try.prog 8 #[.int .i64 1, .int .i64 5] (W) fun e w' => e = .returned (.tuple #[.agg #[.int .i64 1, .int .i64 5], .bool true]) ∧ Below (W).heap.size (W) w' :=
  gcall_as (G.new 1 5 W (by decide) (by decide)) (by rfl) fun e w' ⟨he, hb⟩ => ⟨he.trans (by rfl), hb⟩
set_option maxRecDepth 100000 in
theorem alive3_N2 (G : GapC) (W : World) : Calls Try.prog 8 #[.int .i64 2, .int .i64 1] (W) fun e w' => e = .returned (.tuple #[.agg #[.int .i64 0, .int .i64 0], .bool false]) ∧ Below (W).heap.size (W) w' :=
  gcall_as (G.new 2 1 W (by decide) (by decide)) (by rfl) fun e w' ⟨he, hb⟩ => ⟨he.trans (by rfl), hb⟩
set_option maxRecDepth 100000 in
theorem alive3_M1 (G : GapC) (W : World) (g : Nat) (hg : Hid (g = W.heap.size)) : Calls Try.prog 20 #[.slice (some ⟨g, 0, none⟩) 2 2] (W.alloc (.cells #[.int .i64 1, .int .i64 5, .int .i64 4, .int .i64 9] 23)) fun e w' => e = .returned (.tuple #[.agg #[.int .i64 4, .int .i64 5], .int .i64 0]) ∧ Below (W.alloc (.cells #[.int .i64 1, .int .i64 5, .int .i64 4, .int .i64 9] 23)).heap.size (W.alloc (.cells #[.int .i64 1, .int .i64 5, .int .i64 4, .int .i64 9] 23)) w' := by
  have hg := hg.out; subst hg
  exact gcall_as (G.meet (.slice (some ⟨W.heap.size, 0, none⟩) 2 2) [(1, 5), (4, 9)] (W.alloc (.cells #[.int .i64 1, .int .i64 5, .int .i64 4, .int .i64 9] 23)) (Gaps.new W 23 _ [(1, 5), (4, 9)] rfl) (by decide) (by decide)) (by rfl) fun e w' ⟨he, hb⟩ => ⟨Eq.trans he (by rfl), hb⟩
set_option maxRecDepth 100000 in
theorem alive3_H1 (G : GapC) (W : World) (g : Nat) (hg : Hid (g = W.heap.size)) : Calls Try.prog 21 #[.slice (some ⟨g, 0, none⟩) 2 2] (W.alloc (.cells #[.int .i64 1, .int .i64 5, .int .i64 7, .int .i64 9] 23)) fun e w' => e = .returned (.tuple #[.agg #[.int .i64 1, .int .i64 9], .int .i64 0]) ∧ Below (W.alloc (.cells #[.int .i64 1, .int .i64 5, .int .i64 7, .int .i64 9] 23)).heap.size (W.alloc (.cells #[.int .i64 1, .int .i64 5, .int .i64 7, .int .i64 9] 23)) w' := by
  have hg := hg.out; subst hg
  exact gcall_as (G.hull (.slice (some ⟨W.heap.size, 0, none⟩) 2 2) [(1, 5), (7, 9)] (W.alloc (.cells #[.int .i64 1, .int .i64 5, .int .i64 7, .int .i64 9] 23)) (Gaps.new W 23 _ [(1, 5), (7, 9)] rfl) (by decide) (by decide)) (by rfl) fun e w' ⟨he, hb⟩ => ⟨Eq.trans he (by rfl), hb⟩
set_option maxRecDepth 100000 in
theorem alive3_M2 (G : GapC) (W : World) (g : Nat) (hg : Hid (g = W.heap.size)) : Calls Try.prog 20 #[.slice (some ⟨g, 0, none⟩) 2 2] (W.alloc (.cells #[.int .i64 1, .int .i64 5, .int .i64 6, .int .i64 9] 23)) fun e w' => e = .returned (.tuple #[.agg #[.int .i64 0, .int .i64 0], .int .i64 13]) ∧ Below (W.alloc (.cells #[.int .i64 1, .int .i64 5, .int .i64 6, .int .i64 9] 23)).heap.size (W.alloc (.cells #[.int .i64 1, .int .i64 5, .int .i64 6, .int .i64 9] 23)) w' := by
  have hg := hg.out; subst hg
  exact gcall_as (G.meet (.slice (some ⟨W.heap.size, 0, none⟩) 2 2) [(1, 5), (6, 9)] (W.alloc (.cells #[.int .i64 1, .int .i64 5, .int .i64 6, .int .i64 9] 23)) (Gaps.new W 23 _ [(1, 5), (6, 9)] rfl) (by decide) (by decide)) (by rfl) fun e w' ⟨he, hb⟩ => ⟨Eq.trans he (by rfl), hb⟩
set_option maxRecDepth 100000 in
theorem alive3_S (G : GapC) (W : World) : Calls Try.prog 9 #[.agg #[.int .i64 1, .int .i64 5], .int .i64 (-3)] (W) fun e w' => e = .returned (.tuple #[.agg #[.int .i64 (-2), .int .i64 2], .int .i64 0]) ∧ Below (W).heap.size (W) w' :=
  gcall_as (G.shift 1 5 (-3) W (by decide) (by decide) (by decide)) (by rfl) fun e w' ⟨he, hb⟩ => ⟨Eq.trans he (by rfl), hb⟩
set_option maxRecDepth 100000 in
theorem alive3_G (G : GapC) (W : World) : Calls Try.prog 10 #[.agg #[.int .i64 1, .int .i64 5], .int .i64 1, .int .i64 2] (W) fun e w' => e = .returned (.tuple #[.agg #[.int .i64 0, .int .i64 7], .int .i64 0]) ∧ Below (W).heap.size (W) w' :=
  gcall_as (G.grow 1 5 1 2 W (by decide) (by decide) (by decide) (by decide)) (by rfl) fun e w' ⟨he, hb⟩ => ⟨Eq.trans he (by rfl), hb⟩
set_option maxRecDepth 100000 in
theorem alive3_R (G : GapC) (W : World) : Calls Try.prog 14 #[.agg #[.int .i64 1, .int .i64 5]] (W) fun e w' => e = .returned (.bool true) ∧ Below (W).heap.size (W) w' :=
  gcall_as (G.right 1 5 W) (by rfl) fun e w' ⟨he, hb⟩ => ⟨he.trans (by rfl), hb⟩
set_option maxRecDepth 100000 in
theorem alive3_A5 (G : GapC) (W : World) : Calls Try.prog 17 #[.agg #[.int .i64 1, .int .i64 5], .int .i64 5] (W) fun e w' => e = .returned (.bool true) ∧ Below (W).heap.size (W) w' :=
  gcall_as (G.has 1 5 5 W) (by rfl) fun e w' ⟨he, hb⟩ => ⟨he.trans (by rfl), hb⟩
set_option maxRecDepth 100000 in
theorem alive3_A6 (G : GapC) (W : World) : Calls Try.prog 17 #[.agg #[.int .i64 1, .int .i64 5], .int .i64 6] (W) fun e w' => e = .returned (.bool false) ∧ Below (W).heap.size (W) w' :=
  gcall_as (G.has 1 5 6 W) (by rfl) fun e w' ⟨he, hb⟩ => ⟨he.trans (by rfl), hb⟩
set_option maxRecDepth 100000 in
theorem alive3_I (G : GapC) (W : World) : Calls Try.prog 18 #[.agg #[.int .i64 1, .int .i64 5], .agg #[.int .i64 1, .int .i64 9]] (W) fun e w' => e = .returned (.bool true) ∧ Below (W).heap.size (W) w' :=
  gcall_as (G.within 1 5 1 9 W) (by rfl) fun e w' ⟨he, hb⟩ => ⟨he.trans (by rfl), hb⟩
set_option maxRecDepth 100000 in
theorem alive3_W (G : GapC) (W : World) : Calls Try.prog 19 #[.agg #[.int .i64 1, .int .i64 5]] (W) fun e w' => e = .returned (.int .u64 4) ∧ Below (W).heap.size (W) w' :=
  gcall_as (G.width 1 5 W (by decide) (by decide)) (by rfl) fun e w' ⟨he, hb⟩ => ⟨he.trans (by rfl), hb⟩
set_option maxRecDepth 100000 in
theorem alive3_D (G : GapC) (W : World) : Calls Try.prog 15 #[.agg #[.int .i64 (-3), .int .i64 0]] (W) fun e w' => e = .returned (.int .i64 (-2)) ∧ Below (W).heap.size (W) w' :=
  gcall_as (G.mid (-3) 0 W (by decide) (by decide)) (by rfl) fun e w' ⟨he, hb⟩ => ⟨he.trans (by rfl), hb⟩

set_option maxRecDepth 100000 in
set_option maxHeartbeats 8000000 in
theorem alive3_any (G : GapC) (w : World) :
    Calls Try.prog 7 #[] w fun e w' => e = .returned (.bool true) ∧ Below w.heap.size w w' := by
  have CN1 := Lib.hid (alive3_N1 G)
  have CN2 := Lib.hid (alive3_N2 G)
  have CM1 := Lib.hid (alive3_M1 G)
  have CH1 := Lib.hid (alive3_H1 G)
  have CM2 := Lib.hid (alive3_M2 G)
  have CS := Lib.hid (alive3_S G)
  have CG := Lib.hid (alive3_G G)
  have CR := Lib.hid (alive3_R G)
  have CA5 := Lib.hid (alive3_A5 G)
  have CA6 := Lib.hid (alive3_A6 G)
  have CI := Lib.hid (alive3_I G)
  have CW := Lib.hid (alive3_W G)
  have CD := Lib.hid (alive3_D G)
  clear G
  have hB := Below.refl w.heap.size w
  have hS0 : w.heap.size ≤ w.heap.size := Nat.le_refl _
  go_enter Try.func7, Try.ntmps7
  go_wp2_with fail
  refine (CN1.out w).mono ?_; rintro e w1 ⟨rfl, h⟩
  replace hB := ext_alloc (ext_step hB h) (.cells #[.int .i64 1, .int .i64 5] 23)
  have hA := At2.new w1 (.int .i64 1) (.int .i64 5) 23
  clear h
  go_wp2_with fail
  have Z : Hid (w1.heap.size + 1 = (w1.alloc (.cells #[.int .i64 1, .int .i64 5] 23)).heap.size) := Lib.hid (World.size_alloc _ _).symm
  generalize w1.alloc (.cells #[.int .i64 1, .int .i64 5] 23) = W1 at *
  refine (CN2.out W1).mono ?_; rintro e w2 ⟨rfl, h⟩
  clear Z
  replace hA := (hA.below h).alloc (.cells #[.int .i64 0, .int .i64 0] 23)
  replace hB := ext_alloc (ext_step hB h) (.cells #[.int .i64 0, .int .i64 0] 23)
  clear h
  obtain ⟨a0, a1, -, -⟩ := id hA
  go_wp2_with fail
  clear a0 a1
  have Z : Hid (w2.heap.size + 1 = (w2.alloc (.cells #[.int .i64 0, .int .i64 0] 23)).heap.size) := Lib.hid (World.size_alloc _ _).symm
  generalize w2.alloc (.cells #[.int .i64 0, .int .i64 0] 23) = W2 at *
  replace hA := hA.alloc (.cells #[.int .i64 1, .int .i64 5, .int .i64 4, .int .i64 9] 23)
  replace hB := ext_alloc hB (.cells #[.int .i64 1, .int .i64 5, .int .i64 4, .int .i64 9] 23)
  refine (CM1.out W2 _ Z).mono ?_; rintro e w3 ⟨rfl, h⟩
  clear Z
  replace hA := (hA.below h).alloc (.cells #[.int .i64 4, .int .i64 5] 23)
  replace hB := ext_alloc (ext_step hB h) (.cells #[.int .i64 4, .int .i64 5] 23)
  have hM := At2.new w3 (.int .i64 4) (.int .i64 5) 23
  clear h
  obtain ⟨a0, a1, -, -⟩ := id hA
  go_wp2_with fail
  clear a0 a1
  have Z : Hid (w3.heap.size + 1 = (w3.alloc (.cells #[.int .i64 4, .int .i64 5] 23)).heap.size) := Lib.hid (World.size_alloc _ _).symm
  generalize w3.alloc (.cells #[.int .i64 4, .int .i64 5] 23) = W3 at *
  replace hA := hA.alloc (.cells #[.int .i64 1, .int .i64 5, .int .i64 7, .int .i64 9] 23)
  replace hM := hM.alloc (.cells #[.int .i64 1, .int .i64 5, .int .i64 7, .int .i64 9] 23)
  replace hB := ext_alloc hB (.cells #[.int .i64 1, .int .i64 5, .int .i64 7, .int .i64 9] 23)
  refine (CH1.out W3 _ Z).mono ?_; rintro e w4 ⟨rfl, h⟩
  clear Z
  replace hA := (hA.below h).alloc (.cells #[.int .i64 1, .int .i64 9] 23)
  replace hM := (hM.below h).alloc (.cells #[.int .i64 1, .int .i64 9] 23)
  replace hB := ext_alloc (ext_step hB h) (.cells #[.int .i64 1, .int .i64 9] 23)
  have hH := At2.new w4 (.int .i64 1) (.int .i64 9) 23
  clear h
  obtain ⟨a0, a1, -, -⟩ := id hA
  go_wp2_with fail
  clear a0 a1
  have Z : Hid (w4.heap.size + 1 = (w4.alloc (.cells #[.int .i64 1, .int .i64 9] 23)).heap.size) := Lib.hid (World.size_alloc _ _).symm
  generalize w4.alloc (.cells #[.int .i64 1, .int .i64 9] 23) = W4 at *
  replace hA := hA.alloc (.cells #[.int .i64 1, .int .i64 5, .int .i64 6, .int .i64 9] 23)
  replace hM := hM.alloc (.cells #[.int .i64 1, .int .i64 5, .int .i64 6, .int .i64 9] 23)
  replace hH := hH.alloc (.cells #[.int .i64 1, .int .i64 5, .int .i64 6, .int .i64 9] 23)
  replace hB := ext_alloc hB (.cells #[.int .i64 1, .int .i64 5, .int .i64 6, .int .i64 9] 23)
  refine (CM2.out W4 _ Z).mono ?_; rintro e w5 ⟨rfl, h⟩
  clear Z
  replace hA := (hA.below h).alloc (.cells #[.int .i64 0, .int .i64 0] 23)
  replace hM := (hM.below h).alloc (.cells #[.int .i64 0, .int .i64 0] 23)
  replace hH := (hH.below h).alloc (.cells #[.int .i64 0, .int .i64 0] 23)
  replace hB := ext_alloc (ext_step hB h) (.cells #[.int .i64 0, .int .i64 0] 23)
  clear h
  obtain ⟨a0, a1, -, -⟩ := id hA
  go_wp2_with fail
  clear a0 a1
  have Z : Hid (w5.heap.size + 1 = (w5.alloc (.cells #[.int .i64 0, .int .i64 0] 23)).heap.size) := Lib.hid (World.size_alloc _ _).symm
  generalize w5.alloc (.cells #[.int .i64 0, .int .i64 0] 23) = W5 at *
  refine (CS.out W5).mono ?_; rintro e w6 ⟨rfl, h⟩
  clear Z
  replace hA := (hA.below h).alloc (.cells #[.int .i64 (-2), .int .i64 2] 23)
  replace hM := (hM.below h).alloc (.cells #[.int .i64 (-2), .int .i64 2] 23)
  replace hH := (hH.below h).alloc (.cells #[.int .i64 (-2), .int .i64 2] 23)
  replace hB := ext_alloc (ext_step hB h) (.cells #[.int .i64 (-2), .int .i64 2] 23)
  have hS := At2.new w6 (.int .i64 (-2)) (.int .i64 2) 23
  clear h
  obtain ⟨a0, a1, -, -⟩ := id hA
  go_wp2_with fail
  clear a0 a1
  have Z : Hid (w6.heap.size + 1 = (w6.alloc (.cells #[.int .i64 (-2), .int .i64 2] 23)).heap.size) := Lib.hid (World.size_alloc _ _).symm
  generalize w6.alloc (.cells #[.int .i64 (-2), .int .i64 2] 23) = W6 at *
  refine (CG.out W6).mono ?_; rintro e w7 ⟨rfl, h⟩
  clear Z
  replace hA := (hA.below h).alloc (.cells #[.int .i64 0, .int .i64 7] 23)
  replace hM := (hM.below h).alloc (.cells #[.int .i64 0, .int .i64 7] 23)
  replace hH := (hH.below h).alloc (.cells #[.int .i64 0, .int .i64 7] 23)
  replace hS := (hS.below h).alloc (.cells #[.int .i64 0, .int .i64 7] 23)
  replace hB := ext_alloc (ext_step hB h) (.cells #[.int .i64 0, .int .i64 7] 23)
  have hW := At2.new w7 (.int .i64 0) (.int .i64 7) 23
  clear h
  obtain ⟨a0, a1, -, -⟩ := id hA
  go_upto_region 8 with fail
  clear a0 a1
  have hBL := hB
  clear hB hS0
  change Code.wp _ _ _ _ (w7.alloc (.cells #[.int .i64 0, .int .i64 7] 23))
  generalize w7.alloc (.cells #[.int .i64 0, .int .i64 7] 23) = W7 at *
  obtain ⟨a0, a1, -, -⟩ := id hA
  go_wp2_with fail
  refine (CR.out W7).mono ?_; rintro e v0 ⟨rfl, hq⟩
  clear a0 a1
  replace hA := hA.below hq
  replace hM := hM.below hq
  replace hH := hH.below hq
  replace hS := hS.below hq
  replace hW := hW.below hq
  replace hBL := ext_step hBL hq
  clear hq
  obtain ⟨a0, a1, -, -⟩ := id hA
  go_wp2_with fail
  refine (CA5.out v0).mono ?_; rintro e v1 ⟨rfl, hq⟩
  clear a0 a1
  replace hA := hA.below hq
  replace hM := hM.below hq
  replace hH := hH.below hq
  replace hS := hS.below hq
  replace hW := hW.below hq
  replace hBL := ext_step hBL hq
  clear hq
  obtain ⟨a0, a1, -, -⟩ := id hA
  go_wp2_with fail
  refine (CA6.out v1).mono ?_; rintro e v2 ⟨rfl, hq⟩
  clear a0 a1
  replace hA := hA.below hq
  replace hM := hM.below hq
  replace hH := hH.below hq
  replace hS := hS.below hq
  replace hW := hW.below hq
  replace hBL := ext_step hBL hq
  clear hq
  obtain ⟨a0, a1, -, -⟩ := id hA
  obtain ⟨h0, h1, -, -⟩ := id hH
  go_wp2_with fail
  refine (CI.out v2).mono ?_; rintro e v3 ⟨rfl, hq⟩
  clear a0 a1 h0 h1
  replace hA := hA.below hq
  replace hM := hM.below hq
  replace hH := hH.below hq
  replace hS := hS.below hq
  replace hW := hW.below hq
  replace hBL := ext_step hBL hq
  clear hq
  obtain ⟨a0, a1, -, -⟩ := id hA
  go_wp2_with fail
  refine (CW.out v3).mono ?_; rintro e v4 ⟨rfl, hq⟩
  clear a0 a1
  replace hA := hA.below hq
  replace hM := hM.below hq
  replace hH := hH.below hq
  replace hS := hS.below hq
  replace hW := hW.below hq
  replace hBL := ext_step hBL hq
  clear hq
  go_wp2_with fail
  refine (CD.out v4).mono ?_; rintro e v5 ⟨rfl, hq⟩
  replace hA := hA.below hq
  replace hM := hM.below hq
  replace hH := hH.below hq
  replace hS := hS.below hq
  replace hW := hW.below hq
  replace hBL := ext_step hBL hq
  clear hq
  obtain ⟨m0, m1, -, -⟩ := id hM
  obtain ⟨h0, h1, -, -⟩ := id hH
  obtain ⟨s0, s1, -, -⟩ := id hS
  obtain ⟨w0, w1, -, -⟩ := id hW
  go_wp2_with fail
  go_ret
  exact ⟨rfl, hBL⟩
end Go.Proofs.Ythkeofpmappdhaa
