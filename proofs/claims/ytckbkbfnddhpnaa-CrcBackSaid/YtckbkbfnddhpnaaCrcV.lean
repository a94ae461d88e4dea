/- Law 7's guard, walked. -/
import Derived.Test.YtckbkbfnddhpnaaCrcC
import Derived.Test.YtckbkbfnddhpnaaOwnSet
import Derived.Lib.SlBytesConst
namespace Go.Proofs.Ytckbkbfnddhpnaa
open Go.RowKit

theorem crc_nine : crcI [49, 50, 51, 52, 53, 54, 55, 56, 57] = 3421780262 := by decide +kernel
theorem crc_none : crcI [] = 0 := by decide +kernel
theorem seal_nine : sealI [49, 50, 51, 52, 53, 54, 55, 56, 57] = [49, 50, 51, 52, 53, 54, 55, 56, 57, 38, 57, 244, 203] := by unfold sealI; rw [crc_nine]; rfl
theorem open_nine : openI [49, 50, 51, 52, 53, 54, 55, 56, 57, 38, 57, 244, 203] = ([49, 50, 51, 52, 53, 54, 55, 56, 57], 0) := by rw [← seal_nine, openI_seal]
theorem open_three : openI [1, 2, 3] = ([], 15) := rfl
theorem open_spoilt : openI [50, 50, 51, 52, 53, 54, 55, 56, 57, 38, 57, 244, 203] = ([], 14) := by decide +kernel
theorem byts_new (w : World) (t : TypeId) (zs : List Int) (cs : Array Value) (hcs : cs = (zs.map (Value.int .u8)).toArray) (g n : Nat) (hg : Hid (g = w.heap.size)) (hn : n = zs.length) : Lst (w.alloc (.cells cs t)) (w.alloc (.cells cs t)).heap.size .u8 (.slice (some ⟨g, 0, none⟩) n n) zs := by
  have hg := hg.out; subst hg; subst hn
  rw [World.size_alloc]
  exact Lst.new w t cs hcs

theorem conv_lit (w : World) (C : Array Value) (n c g : Nat) (hg : w.heap.size = g) : (convert 23 23 (.slice (some ⟨g, 0, none⟩) n c)).run Try.prog (w.alloc (.cells C 5)) = .ok (.slice (some ⟨g, 0, none⟩) n c) (w.alloc (.cells C 5 (C.size, C.size + 1))) := by
  subst hg
  exact Lib.run_convert_bytes_const w 23 5 C n c Try.underlying23 Try.underlying5
/-- A literal's bytes, marked as a constant's. -/
theorem byts_lit (w : World) (t : TypeId) (zs : List Int) (cs : Array Value) (m : Nat × Nat) (hcs : cs = (zs.map (Value.int .u8)).toArray) (g n : Nat) (hg : Hid (g = w.heap.size)) (hn : n = zs.length) : Lst (w.alloc (.cells cs t m)) (w.alloc (.cells cs t m)).heap.size .u8 (.slice (some ⟨g, 0, none⟩) n n) zs := by
  have hg := hg.out; subst hg; subst hn; subst hcs
  refine ⟨_, _, rfl, Nat.le_refl _, fun hn => ⟨_, rfl, by simp, fun j hj => ?_⟩⟩
  have e : (Addr.mk w.heap.size 0 none).add j = ⟨w.heap.size, j, none⟩ := by unfold Addr.add; split <;> simp_all
  have e2 : (w.alloc (.cells ((zs.map (Value.int .u8)).toArray) t m)).cell? ⟨w.heap.size, j, none⟩ = (w.alloc (.cells ((zs.map (Value.int .u8)).toArray) t)).cell? ⟨w.heap.size, j, none⟩ := by
    unfold World.cell?
    simp only [heap_alloc_new]
  rw [e, e2, World.cell?_alloc_new]
  simp [hj]

set_option maxRecDepth 100000 in
set_option maxHeartbeats 4000000 in
theorem alive7_any (G : CrcC) (w : World) : Calls Try.prog 6 #[] w fun e w' => e = .returned (.bool true) ∧ Below w.heap.size w w' := by
  have C1 : Hid (∀ W v, LstL W W.heap.size v [[49, 50, 51, 52], [53, 54, 55, 56, 57]] → Calls Try.prog 15 #[v] W (Copied 5 .u8 W [49, 50, 51, 52, 53, 54, 55, 56, 57, 38, 57, 244, 203])) := Lib.hid fun W v h => by
    have := G.seal_ v _ W h (by intro p hp c hc; simp only [List.mem_cons, List.not_mem_nil, or_false] at hp; rcases hp with rfl | rfl <;> (revert c; decide)) (by decide) (by decide)
    rwa [show ([[49, 50, 51, 52], [53, 54, 55, 56, 57]] : List (List Int)).flatten = [49, 50, 51, 52, 53, 54, 55, 56, 57] from rfl, seal_nine] at this
  have C2 : Hid (∀ W v, Lst W W.heap.size .u8 v [49, 50, 51, 52, 53, 54, 55, 56, 57, 38, 57, 244, 203] → Calls Try.prog 10 #[v] W fun e w' => ∃ u, e = .returned (.tuple #[u, .int .i64 0]) ∧ Lst w' w'.heap.size .u8 u [49, 50, 51, 52, 53, 54, 55, 56, 57] ∧ Below W.heap.size W w') := Lib.hid fun W v h => by
    have := G.open_ v _ W h (by intro c hc; revert c; decide) (by decide)
    rwa [open_nine] at this
  have C3 : Hid (∀ W v, Lst W W.heap.size .u8 v [1, 2, 3] → Calls Try.prog 10 #[v] W fun e w' => ∃ u, e = .returned (.tuple #[u, .int .i64 15]) ∧ Below W.heap.size W w') := Lib.hid fun W v h => by
    have := G.open_ v _ W h (by intro c hc; revert c; decide) (by decide)
    rw [open_three] at this
    exact this.mono fun e w' ⟨u, h1, _, h3⟩ => ⟨u, h1, h3⟩
  have C4 : Hid (∀ W v, Lst W W.heap.size .u8 v [50, 50, 51, 52, 53, 54, 55, 56, 57, 38, 57, 244, 203] → Calls Try.prog 10 #[v] W fun e w' => ∃ u, e = .returned (.tuple #[u, .int .i64 14]) ∧ Below W.heap.size W w') := Lib.hid fun W v h => by
    have := G.open_ v _ W h (by intro c hc; revert c; decide) (by decide)
    rw [open_spoilt] at this
    exact this.mono fun e w' ⟨u, h1, _, h3⟩ => ⟨u, h1, h3⟩
  have C5 : Hid (∀ W v, LstL W W.heap.size v [[49, 50, 51, 52, 53, 54, 55, 56, 57]] → Calls Try.prog 12 #[v] W fun e w' => e = .returned (.int .u32 3421780262) ∧ Below W.heap.size W w') := Lib.hid fun W v h => by
    have := G.sum v _ W h (by intro p hp c hc; simp only [List.mem_cons, List.not_mem_nil, or_false] at hp; subst hp; revert c; decide) (by decide) (by decide)
    rwa [show ([[49, 50, 51, 52, 53, 54, 55, 56, 57]] : List (List Int)).flatten = [49, 50, 51, 52, 53, 54, 55, 56, 57] from rfl, crc_nine] at this
  have C6 : Hid (∀ W, Calls Try.prog 12 #[.slice none 0 0] W fun e w' => e = .returned (.int .u32 0) ∧ Below W.heap.size W w') := Lib.hid fun W => by
    have := G.sum (.slice none 0 0) [] W (LstL.nil _ _) (by intro p hp; simp at hp) (by decide) (by decide)
    rwa [show ([] : List (List Int)).flatten = [] from rfl, crc_none] at this
  have hcv := conv_lit
  clear G
  go_enter Try.func6, Try.ntmps6
  go_wp2_with fail
  have HA := Lib.hid (byts_lit w 5 [49, 50, 51, 52] _ (4, 5) rfl w.heap.size 4 (Lib.hid rfl) rfl)
  have HB := Lib.hid (byts_lit (w.alloc (.cells (([49, 50, 51, 52] : List Int).map (Value.int .u8)).toArray 5 (4, 5))) 5 [53, 54, 55, 56, 57] _ (5, 6) rfl (w.heap.size + 1) 5 (Lib.hid (by simp)) rfl)
  have HP := Lib.hid (LstL.lits ((w.alloc (.cells (([49, 50, 51, 52] : List Int).map (Value.int .u8)).toArray 5 (4, 5))).alloc (.cells (([53, 54, 55, 56, 57] : List Int).map (Value.int .u8)).toArray 5 (5, 6))) 23 [.slice (some ⟨w.heap.size, 0, none⟩) 4 4, .slice (some ⟨w.heap.size + 1, 0, none⟩) 5 5] [[49, 50, 51, 52], [53, 54, 55, 56, 57]] rfl (fun j h1 h2 => by
    match j, h1, h2 with
    | 0, _, _ => exact (HA.out.below (below_new _ _)).more (below_new _ _).size
    | 1, _, _ => exact HB.out) _ rfl (w.heap.size + 1 + 1) 2 (Lib.hid (by simp)) rfl)
  have hB : Below w.heap.size w _ := ext_alloc (ext_alloc (below_new w (.cells (([49, 50, 51, 52] : List Int).map (Value.int .u8)).toArray 5 (4, 5))) (.cells (([53, 54, 55, 56, 57] : List Int).map (Value.int .u8)).toArray 5 (5, 6))) (.cells #[.slice (some ⟨w.heap.size, 0, none⟩) 4 4, .slice (some ⟨w.heap.size + 1, 0, none⟩) 5 5] 23)
  refine (C1.out _ _ HP.out).mono ?_; rintro e w1 ⟨b, rfl, hO, h⟩
  replace hB := ext_step hB h
  clear h HP HA HB C1
  go_wp2_with fail
  refine (C2.out _ _ hO.lst).mono ?_; rintro e w2 ⟨cc, rfl, hC, h⟩
  replace hB := ext_step hB h
  replace hO := hO.keep h
  obtain ⟨Ac, cc2, rfl⟩ := hC.len
  have HT := Lib.hid (byts_new w2 5 [1, 2, 3] _ rfl w2.heap.size 3 (Lib.hid rfl) rfl)
  replace hB := ext_alloc hB (.cells (([1, 2, 3] : List Int).map (Value.int .u8)).toArray 5)
  replace hO := hO.grow_ (.cells (([1, 2, 3] : List Int).map (Value.int .u8)).toArray 5)
  clear h hC C2
  go_wp2_with fail
  refine (C3.out _ _ HT.out).mono ?_; rintro e w3 ⟨u3, rfl, h⟩
  replace hB := ext_step hB h
  replace hO := hO.keep h
  clear h HT C3
  obtain ⟨g, cp, rfl, hg, hg2⟩ := hO.form (by decide)
  have hc0 := (hO.at_ (j := 0) (by decide)).1
  have hf0 := (hO.at_ (j := 0) (by decide)).2
  have hO2 := hO.set_ 0 50
  simp only [List.length_cons, List.length_nil, Nat.reduceAdd, List.getElem_cons_zero, List.set_cons_zero] at hc0 hf0 hO2
  go_wp2_with fail
  replace hB := ext_put (p := ⟨g, 0, none⟩) hB (by simp only [World.size_alloc] at hg; show w.heap.size ≤ g; omega) (.int .u8 50)
  refine (C4.out _ _ (by simpa using hO2.1.lst)).mono ?_; rintro e w4 ⟨u4, rfl, h⟩
  replace hB := ext_step hB h
  clear h hO hO2 hc0 hf0 C4
  have HA := Lib.hid (byts_lit w4 5 [49, 50, 51, 52, 53, 54, 55, 56, 57] _ (9, 10) rfl w4.heap.size 9 (Lib.hid rfl) rfl)
  have HP := Lib.hid (LstL.lits (w4.alloc (.cells (([49, 50, 51, 52, 53, 54, 55, 56, 57] : List Int).map (Value.int .u8)).toArray 5 (9, 10))) 23 [.slice (some ⟨w4.heap.size, 0, none⟩) 9 9] [[49, 50, 51, 52, 53, 54, 55, 56, 57]] rfl (fun j h1 h2 => by
    match j, h1, h2 with
    | 0, _, _ => exact HA.out) _ rfl (w4.heap.size + 1) 1 (Lib.hid (by simp)) rfl)
  replace hB := ext_alloc (ext_alloc hB (.cells (([49, 50, 51, 52, 53, 54, 55, 56, 57] : List Int).map (Value.int .u8)).toArray 5 (9, 10))) (.cells #[.slice (some ⟨w4.heap.size, 0, none⟩) 9 9] 23)
  go_wp2_with fail
  refine (C5.out _ _ HP.out).mono ?_; rintro e w5 ⟨rfl, h⟩
  replace hB := ext_step hB h
  clear h HA HP C5
  go_wp2_with fail
  refine (C6.out _).mono ?_; rintro e w6 ⟨rfl, h⟩
  replace hB := ext_step hB h
  go_wp2_with fail
  go_ret
  exact ⟨rfl, hB⟩
end Go.Proofs.Ytckbkbfnddhpnaa
