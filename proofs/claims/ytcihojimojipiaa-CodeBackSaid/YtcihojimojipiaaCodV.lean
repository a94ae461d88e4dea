/- Law 6's guard, walked; CodeSizes, walked. -/
import Derived.Test.YtcihojimojipiaaCodC
import Derived.Test.YtcihojimojipiaaSameBytes
import Derived.Deep.CutBlock
import Derived.Deep.DeepCutAuto
import Derived.Deep.RegionHeld3
namespace Go.Proofs.Ytcihojimojipiaa
open Go.RowKit
variable {Rd : World → Nat → Nat → Nat → List Int → Int → Prop}

theorem uints_300 : uintsL [300, 0] = [172, 2, 0] := by
  unfold uintsL
  simp only [List.flatMap_cons, List.flatMap_nil, List.append_nil]
  rw [show (300 : Int).toNat = 300 from rfl, show (0 : Int).toNat = 0 from rfl, leb_ge (n := 300) (by decide), leb_lt (n := 300 / 128) (by decide), leb_lt (n := 0) (by decide)]
  rfl
theorem ints_3 : intsL [-3] = [5] := by
  unfold intsL
  simp only [List.flatMap_cons, List.flatMap_nil, List.append_nil]
  rw [show (turnI (-3)).toNat = 5 from rfl, leb_lt (n := 5) (by decide)]
  rfl
theorem texts_ab : textsL [⟨#[97, 98]⟩, ⟨#[]⟩] = [2, 97, 98, 0] := by
  unfold textsL txtL
  simp only [List.flatMap_cons, List.flatMap_nil, List.append_nil]
  rw [show (ByteArray.mk #[97, 98]).size = 2 from rfl, show (ByteArray.mk #[]).size = 0 from rfl, leb_lt (n := 2) (by decide), leb_lt (n := 0) (by decide)]
  rfl
theorem lits_new (w : World) (t : TypeId) (k : IntKind) (zs : List Int) (cs : Array Value) (hcs : cs = (zs.map (Value.int k)).toArray) (g n : Nat) (hg : Hid (g = w.heap.size)) (hn : n = zs.length) : Lst (w.alloc (.cells cs t)) (w.alloc (.cells cs t)).heap.size k (.slice (some ⟨g, 0, none⟩) n n) zs := by
  have hg := hg.out; subst hg; subst hn
  rw [World.size_alloc]
  exact Lst.new w t cs hcs
theorem texts_new (w : World) (t : TypeId) (ss : List ByteArray) (cs : Array Value) (hcs : cs = (ss.map Value.string).toArray) (g n : Nat) (hg : Hid (g = w.heap.size)) (hn : n = ss.length) : LstS (w.alloc (.cells cs t)) (w.alloc (.cells cs t)).heap.size (.slice (some ⟨g, 0, none⟩) n n) ss := by
  have hg := hg.out; subst hg; subst hn; subst hcs
  refine ⟨_, _, rfl, Nat.le_refl _, fun hn => ⟨_, rfl, by simp, fun j hj => ?_⟩⟩
  have e : (Addr.mk w.heap.size 0 none).add j = ⟨w.heap.size, j, none⟩ := by unfold Addr.add; split <;> simp_all
  rw [e, World.cell?_alloc_new]
  simp [hj]
theorem ext_drewN' {w X Y : World} {n : Nat} (h : Below w.heap.size w X) (e : X.drewN n = Y) : Below w.heap.size w Y := by subst e; exact ext_drewN h n

set_option maxRecDepth 100000 in
set_option maxHeartbeats 4000000 in
theorem alive6_any (G : CodeC Rd) (w : World) : Calls Try.prog 8 #[] w fun e w' => e = .returned (.bool true) ∧ Below w.heap.size w w' := by
  have CN : Hid (∀ W u, Lst W W.heap.size .u8 u [172, 2, 5, 1, 97, 9] → Calls Try.prog 21 #[u] W fun e w' => ∃ g, e = .returned (ptrV g) ∧ Rd w' g W.heap.size w'.heap.size [172, 2, 5, 1, 97, 9] 0 ∧ Below W.heap.size W w') := Lib.hid fun W u h => G.new u _ W h (by intro c hc; revert c; decide) (by decide)
  have C1 : Hid (∀ W g L U, Rd W g L U [172, 2, 5, 1, 97, 9] 0 → Calls Try.prog 23 #[ptrV g] W fun e' w' => e' = .returned (.int .u64 300) ∧ Rd w' g L U [5, 1, 97, 9] 0 ∧ Aside L U W w') := Lib.hid fun W g L U h => G.uint W g L U _ 0 h (by intro c hc; revert c; decide) (by decide)
  have C2 : Hid (∀ W g L U, Rd W g L U [5, 1, 97, 9] 0 → Calls Try.prog 25 #[ptrV g] W fun e' w' => e' = .returned (.int .i64 (-3)) ∧ Rd w' g L U [1, 97, 9] 0 ∧ Aside L U W w') := Lib.hid fun W g L U h => G.int W g L U _ 0 h (by intro c hc; revert c; decide) (by decide)
  have C3 : Hid (∀ W g L U, Rd W g L U [1, 97, 9] 0 → Calls Try.prog 27 #[ptrV g, .int .i64 1] W fun e' w' => e' = .returned (.string ⟨#[97]⟩) ∧ Rd w' g L U [9] 0 ∧ Aside L U W w') := Lib.hid fun W g L U h => G.text W g L U _ 0 1 h (by intro c hc; revert c; decide) (by decide) (by decide)
  have C4 : Hid (∀ W g L U, Rd W g L U [9] 0 → Calls Try.prog 34 #[ptrV g] W fun e' w' => e' = .returned (.int .i64 1) ∧ Below W.heap.size W w') := Lib.hid fun W g L U h => G.left W g L U _ 0 h
  have C5 : Hid (∀ W g L U, Rd W g L U [9] 0 → Calls Try.prog 33 #[ptrV g] W fun e' w' => e' = .returned (.int .i64 0) ∧ Below W.heap.size W w') := Lib.hid fun W g L U h => G.err W g L U _ 0 h
  have C6 : Hid (∀ W g L U, Rd W g L U [9] 0 → Calls Try.prog 29 #[ptrV g, .int .i64 8] W fun e' w' => e' = .returned (.int .i64 0) ∧ Rd w' g L U [9] 17 ∧ Aside L U W w') := Lib.hid fun W g L U h => G.count W g L U _ 0 8 h (by intro c hc; revert c; decide) (by decide) (by decide)
  have C7 : Hid (∀ W g L U, Rd W g L U [9] 17 → Calls Try.prog 33 #[ptrV g] W fun e' w' => e' = .returned (.int .i64 17) ∧ Below W.heap.size W w') := Lib.hid fun W g L U h => G.err W g L U _ 17 h
  have C8 : Hid (∀ W g L U, Rd W g L U [9] 17 → Calls Try.prog 31 #[ptrV g] W fun e' w' => e' = .returned (.int .i64 17) ∧ Rd w' g L U [9] 17 ∧ Aside L U W w') := Lib.hid fun W g L U h => G.end_ W g L U _ 17 h
  have C9 : Hid (∀ W u, Lst W W.heap.size .u64 u [300, 0] → Calls Try.prog 17 #[u] W (Copied 5 .u8 W [172, 2, 0])) := Lib.hid fun W u h => by
    have := G.uints u _ W h (by intro c hc; revert c; decide) (by decide)
    rwa [uints_300] at this
  have C10 : Hid (∀ W u, Lst W W.heap.size .i64 u [-3] → Calls Try.prog 18 #[u] W (Copied 5 .u8 W [5])) := Lib.hid fun W u h => by
    have := G.ints u _ W h (by intro c hc; revert c; decide) (by decide)
    rwa [ints_3] at this
  have C11 : Hid (∀ W u, LstS W W.heap.size u [⟨#[97, 98]⟩, ⟨#[]⟩] → Calls Try.prog 19 #[u] W (Copied 5 .u8 W [2, 97, 98, 0])) := Lib.hid fun W u h => by
    have := G.texts u _ W h (by
      intro s hs
      simp only [List.mem_cons, List.not_mem_nil, or_false] at hs
      rcases hs with rfl | rfl <;> decide) (by decide)
    rwa [texts_ab] at this
  have C12 : Hid (∀ W, Calls Try.prog 12 #[.int .i64 (-3)] W fun e w' => e = .returned (.int .u64 5) ∧ Below W.heap.size W w') := Lib.hid fun W => G.turn (-3) W (by decide)
  have C13 : Hid (∀ W, Calls Try.prog 10 #[.int .u64 5] W fun e w' => e = .returned (.int .i64 (-3)) ∧ Below W.heap.size W w') := Lib.hid fun W => G.unturn 5 W (by decide) (by decide)
  have HL0 := Lib.hid (lits_new w 5 .u8 [172, 2, 5, 1, 97, 9] _ rfl w.heap.size 6 (Lib.hid rfl) rfl)
  have hB := below_new w (.cells (([172, 2, 5, 1, 97, 9] : List Int).map (Value.int .u8)).toArray 5)
  have KP := Lib.hid fun (W W' : World) g L U bs e (h : Rd W g L U bs e) (hb : Below W.heap.size W W') => G.below h hb
  clear G
  go_enter Try.func8, Try.ntmps8
  go_wp2_with fail
  refine (CN.out _ _ HL0.out).mono ?_; rintro e w1 ⟨g, rfl, hR, h⟩
  replace hB := ext_step hB h
  clear h CN HL0
  have hLe : w.heap.size ≤ (w.alloc (.cells (([172, 2, 5, 1, 97, 9] : List Int).map (Value.int .u8)).toArray 5)).heap.size := by simp
  change Rd w1 g (w.alloc (.cells (([172, 2, 5, 1, 97, 9] : List Int).map (Value.int .u8)).toArray 5)).heap.size _ _ _ at hR
  generalize (w.alloc (.cells (([172, 2, 5, 1, 97, 9] : List Int).map (Value.int .u8)).toArray 5)).heap.size = L at hR hLe
  generalize w1.heap.size = U at hR
  go_wp2_with fail
  refine (C1.out _ _ _ _ hR).mono ?_; rintro e w2 ⟨rfl, h2, hA⟩
  replace hB := ext_aside hB hA hLe
  clear hR hA
  go_wp2_with fail
  refine (C2.out _ _ _ _ h2).mono ?_; rintro e w3 ⟨rfl, h3, hA⟩
  replace hB := ext_aside hB hA hLe
  clear h2 hA
  go_wp2_with fail
  refine (C3.out _ _ _ _ h3).mono ?_; rintro e w4 ⟨rfl, h4, hA⟩
  replace hB := ext_aside hB hA hLe
  clear h3 hA
  go_wp2_with fail
  refine (C4.out _ _ _ _ h4).mono ?_; rintro e w5 ⟨rfl, hb⟩
  replace hB := ext_step hB hb
  have h5 := KP.out _ _ _ _ _ _ _ h4 hb
  clear h4 hb
  go_wp2_with fail
  refine (C5.out _ _ _ _ h5).mono ?_; rintro e w6 ⟨rfl, hb⟩
  replace hB := ext_step hB hb
  have h6 := KP.out _ _ _ _ _ _ _ h5 hb
  clear h5 hb
  go_wp2_with fail
  refine (C6.out _ _ _ _ h6).mono ?_; rintro e w7 ⟨rfl, h7, hA⟩
  replace hB := ext_aside hB hA hLe
  clear h6 hA
  go_wp2_with fail
  refine (C7.out _ _ _ _ h7).mono ?_; rintro e w8 ⟨rfl, hb⟩
  replace hB := ext_step hB hb
  have h8 := KP.out _ _ _ _ _ _ _ h7 hb
  clear h7 hb
  go_wp2_with fail
  refine (C8.out _ _ _ _ h8).mono ?_; rintro e w9 ⟨rfl, h9, hA⟩
  replace hB := ext_aside hB hA hLe
  have HU := Lib.hid (lits_new w9 28 .u64 [300, 0] _ rfl w9.heap.size 2 (Lib.hid rfl) rfl)
  replace hB := ext_alloc hB (.cells (([300, 0] : List Int).map (Value.int .u64)).toArray 28)
  clear h8 hA h9
  go_wp2_with fail
  refine (C9.out _ _ HU.out).mono ?_; rintro e w10 ⟨u, rfl, hO, hb⟩
  replace hB := ext_step hB hb
  have HS1 := Lib.hid (((hO.keep (below_new w10 (.cells (([172, 2, 0] : List Int).map (Value.int .u8)).toArray 5)))).lst)
  have HS2 := Lib.hid (lits_new w10 5 .u8 [172, 2, 0] _ rfl w10.heap.size 3 (Lib.hid rfl) rfl)
  have CS1 := Lib.hid (sameBytes_any _ _ [172, 2, 0] _ HS1.out HS2.out (by decide))
  replace hB := ext_alloc hB (.cells (([172, 2, 0] : List Int).map (Value.int .u8)).toArray 5)
  clear hO hb HU
  go_wp2_with fail
  refine (CS1.out).mono ?_; rintro e w11 ⟨rfl, n, hw⟩
  replace hB := ext_drewN' hB hw
  have HU := Lib.hid (lits_new w11 2 .i64 [-3] _ rfl w11.heap.size 1 (Lib.hid rfl) rfl)
  replace hB := ext_alloc hB (.cells (([-3] : List Int).map (Value.int .i64)).toArray 2)
  clear hw CS1 HS1 HS2
  go_wp2_with fail
  refine (C10.out _ _ HU.out).mono ?_; rintro e w12 ⟨u2, rfl, hO, hb⟩
  replace hB := ext_step hB hb
  have HS1 := Lib.hid (((hO.keep (below_new w12 (.cells (([5] : List Int).map (Value.int .u8)).toArray 5)))).lst)
  have HS2 := Lib.hid (lits_new w12 5 .u8 [5] _ rfl w12.heap.size 1 (Lib.hid rfl) rfl)
  have CS1 := Lib.hid (sameBytes_any _ _ [5] _ HS1.out HS2.out (by decide))
  replace hB := ext_alloc hB (.cells (([5] : List Int).map (Value.int .u8)).toArray 5)
  clear hO hb HU
  go_wp2_with fail
  refine (CS1.out).mono ?_; rintro e w13 ⟨rfl, n2, hw⟩
  replace hB := ext_drewN' hB hw
  have HU := Lib.hid (texts_new w13 9 [⟨#[97, 98]⟩, ⟨#[]⟩] _ rfl w13.heap.size 2 (Lib.hid rfl) rfl)
  replace hB := ext_alloc hB (.cells (([⟨#[97, 98]⟩, ⟨#[]⟩] : List ByteArray).map Value.string).toArray 9)
  clear hw CS1 HS1 HS2
  go_wp2_with fail
  refine (C11.out _ _ HU.out).mono ?_; rintro e w14 ⟨u3, rfl, hO, hb⟩
  replace hB := ext_step hB hb
  have HS1 := Lib.hid (((hO.keep (below_new w14 (.cells (([2, 97, 98, 0] : List Int).map (Value.int .u8)).toArray 5)))).lst)
  have HS2 := Lib.hid (lits_new w14 5 .u8 [2, 97, 98, 0] _ rfl w14.heap.size 4 (Lib.hid rfl) rfl)
  have CS1 := Lib.hid (sameBytes_any _ _ [2, 97, 98, 0] _ HS1.out HS2.out (by decide))
  replace hB := ext_alloc hB (.cells (([2, 97, 98, 0] : List Int).map (Value.int .u8)).toArray 5)
  clear hO hb HU
  go_wp2_with fail
  refine (CS1.out).mono ?_; rintro e w15 ⟨rfl, n3, hw⟩
  replace hB := ext_drewN' hB hw
  clear hw CS1 HS1 HS2
  go_wp2_with fail
  refine (C12.out _).mono ?_; rintro e w16 ⟨rfl, hb⟩
  replace hB := ext_step hB hb
  clear hb
  go_wp2_with fail
  refine (C13.out _).mono ?_; rintro e w17 ⟨rfl, hb⟩
  replace hB := ext_step hB hb
  clear hb
  go_wp2_with fail
  go_ret
  exact ⟨rfl, hB⟩
end Go.Proofs.Ytcihojimojipiaa
