/- Law 4's of, walked: points as the document's own ones. -/
import Derived.Test.YtljgfallhnlebaaAt2
import Derived.Test.YtljgfallhnlebaaPairs
import Derived.Test.YtljgfallhnlebaaTake
namespace Go.Proofs.Ytljgfallhnlebaa
open Go.RowKit

theorem point_info : (Try.prog.info? 46).map (fun i => (i.zero, i.size, i.bytes)) = some (some (.agg #[.int .i64 0, .int .i64 0]), 2, 16) := by kernel_rfl
theorem pair_src (wr : World) (x y : Value) (t : TypeId) (g : Nat) (hg : Hid (g = wr.heap.size)) : SrcV (wr.alloc (.cells #[x, y] t)) (some ⟨g, 0, none⟩) 1 [x, y] := by
  have hg := hg.out; subst hg
  exact fun _ => ⟨_, rfl, pair_cells wr x y t⟩
set_option maxRecDepth 100000 in
set_option maxHeartbeats 4000000 in
theorem of4_any (v : Value) (gs : List (Int × Int)) (w : World) (hv : Gaps w w.heap.size v gs) (hn : gs.length ≤ 1000000) :
    Calls Try.prog 18 #[v] w fun e w' => ∃ u, e = .returned u ∧ OwnG 46 w' w.heap.size u gs ∧ Below w.heap.size w w' := by
  obtain ⟨i0, hi, hz0, hz1, hz2⟩ := info_parts point_info
  obtain ⟨A, c, rfl, hc, hr⟩ := id hv
  have HR := Lib.hid hr
  have HN := Lib.hid hn
  clear hr hv hn
  go_enter Try.func18, Try.ntmps18
  go_wp2_with fail
  go_loopw [3, 4] (fun o i wr => ∃ k : Nat, k ≤ gs.length ∧ i = .int .i64 k ∧ OwnG 46 wr w.heap.size o (gs.take k) ∧ Below w.heap.size w wr) (fun _ i _ => gs.length - (intOf i).toNat)
  case atStart => exact ⟨0, Nat.zero_le _, rfl, OwnG.empty _ w, below_new _ _⟩
  case round =>
    obtain ⟨k, hk, rfl, hown, hB⟩ := hrel
    by_cases hlt : k < gs.length
    · obtain ⟨ad, rfl, hb, hcell⟩ := HR.out (by omega)
      have HC : Hid (∀ W', Below w.heap.size w W' → W'.cell? (ad.add (k * 2)) = some (.int .i64 gs[k].1) ∧ W'.cell? ⟨(ad.add (k * 2)).block, (ad.add (k * 2)).off + 1, none⟩ = some (.int .i64 gs[k].2)) := Lib.hid fun W' h' => by
        have c1 : _ = _ := (h'.cell (by rw [block_of_add]; exact hb)).trans (hcell k hlt).1
        have c2 : _ = _ := (h'.cell (by rw [block_of_add]; exact hb)).trans (hcell k hlt).2
        rw [add_succ] at c2
        exact ⟨c1, c2⟩
      have HT : Hid (gs.take (k + 1) = gs.take k ++ [gs[k]]) := Lib.hid (List.take_succ_eq_append_getElem hlt)
      have HG : Hid (gs[k] = (gs[k].1, gs[k].2)) := Lib.hid rfl
      have HL : Hid ((gs.take k).length = k) := Lib.hid (by rw [List.length_take]; omega)
      have e0 : (0 : Int) ≤ (k : Int) := by omega
      have e1 : (k : Int) < (gs.length : Int) := by omega
      clear hcell
      generalize gs[k].1 = a at *
      generalize gs[k].2 = b at *
      go_upto_region 5 with fail
      have hown1 : OwnG 46 wr.drew w.heap.size _ (gs.take k) := hown.below (Below.refl _ wr).drew
      have hB1 : Below w.heap.size w wr.drew := ext_drew hB
      generalize gs.take k = ys at *
      refine wp_region_held_drew (S := fun w' => w'.cell? (ad.add (k * 2)) = some (.int .i64 a) ∧ w'.cell? ⟨(ad.add (k * 2)).block, (ad.add (k * 2)).off + 1, none⟩ = some (.int .i64 b)) (by kernel_rfl) ?_ (fun hHeld => ?_)
      · exact HC.out _ hB1
      generalize wr.drew = w1 at *
      have hn := HN.out
      refine take_at (i := 0) (d := some 12) (v := ?_) rfl rfl (by kernel_rfl) (by kernel_rfl) (by kernel_rfl) (fun _ _ _ h => h) (Or.inl ⟨by rfl, ?hyo0⟩) (by assumption) ?resto0
      case hyo0 => (intro w hSw; (try dsimp only at hSw); go_simp; try with_reducible rfl)
      simp only [Act.put, List.setIfInBounds_toArray, List.set_cons_zero, List.set_cons_succ]
      refine take_at (i := 1) (d := some 13) (v := ?_) rfl rfl (by kernel_rfl) (by kernel_rfl) (by kernel_rfl) (fun _ _ _ h => h) (Or.inl ⟨by rfl, ?hyo1⟩) (by assumption) ?resto1
      case hyo1 => (intro w hSw; (try dsimp only at hSw); go_simp; try with_reducible rfl)
      simp only [Act.put, List.setIfInBounds_toArray, List.set_cons_zero, List.set_cons_succ]
      refine take_at (i := 2) (d := some 14) (v := ?_) rfl rfl (by kernel_rfl) (by kernel_rfl) (by kernel_rfl) (fun _ _ _ h => h) (Or.inl ⟨by rfl, ?hyo2⟩) (by assumption) ?resto2
      case hyo2 => (intro w hSw; (try dsimp only at hSw); go_simp; try with_reducible rfl)
      simp only [Act.put, List.setIfInBounds_toArray, List.set_cons_zero, List.set_cons_succ]
      refine take_at (i := 3) (d := some 15) (v := ?_) rfl rfl (by kernel_rfl) (by kernel_rfl) (by kernel_rfl) (fun _ _ _ h => h) (Or.inl ⟨by rfl, ?hyo3⟩) (by assumption) ?resto3
      case hyo3 => (intro w hSw; (try dsimp only at hSw); go_simp; try with_reducible rfl)
      simp only [Act.put, List.setIfInBounds_toArray, List.set_cons_zero, List.set_cons_succ]
      refine take_at (i := 4) (d := some 16) (v := ?_) rfl rfl (by kernel_rfl) (by kernel_rfl) (by kernel_rfl) (fun _ _ _ h => h) (Or.inl ⟨by rfl, ?hyo4⟩) (by assumption) ?resto4
      case hyo4 => (intro w hSw; (try dsimp only at hSw); go_simp; try with_reducible rfl)
      simp only [Act.put, List.setIfInBounds_toArray, List.set_cons_zero, List.set_cons_succ]
      refine take_at (i := 5) (d := some 17) (v := ?_) rfl rfl (by kernel_rfl) (by kernel_rfl) (by kernel_rfl) (fun _ _ _ h => h) (Or.inl ⟨by rfl, ?hyo5⟩) (by assumption) ?resto5
      case hyo5 => (intro w hSw; (try dsimp only at hSw); go_simp; try with_reducible rfl)
      simp only [Act.put, List.setIfInBounds_toArray, List.set_cons_zero, List.set_cons_succ]
      refine take_at (i := 6) (d := some 18) (v := ?_) rfl rfl (by kernel_rfl) (by kernel_rfl) (by kernel_rfl) (fun _ _ _ h => h) (Or.inl ⟨by rfl, ?hyo6⟩) (by assumption) ?resto6
      case hyo6 => (intro w hSw; (try dsimp only at hSw); go_simp; try with_reducible rfl)
      simp only [Act.put, List.setIfInBounds_toArray, List.set_cons_zero, List.set_cons_succ]
      refine take_at (i := 7) (d := some 19) (v := ?_) rfl rfl (by kernel_rfl) (by kernel_rfl) (by kernel_rfl) (fun _ _ _ h => h) (Or.inl ⟨by rfl, ?hyo7⟩) (by assumption) ?resto7
      case hyo7 => (intro w hSw; (try dsimp only at hSw); go_simp; try with_reducible rfl)
      simp only [Act.put, List.setIfInBounds_toArray, List.set_cons_zero, List.set_cons_succ]
      refine take_at (i := 8) (d := some 20) (v := ?_) rfl rfl (by kernel_rfl) (by kernel_rfl) (by kernel_rfl) (fun _ _ _ h => h) (Or.inl ⟨by rfl, ?hyo8⟩) (by assumption) ?resto8
      case hyo8 => (intro w hSw; (try dsimp only at hSw); go_simp; try with_reducible rfl)
      simp only [Act.put, List.setIfInBounds_toArray, List.set_cons_zero, List.set_cons_succ]
      refine take_at (i := 9) (d := some 21) (v := ?_) rfl rfl (by kernel_rfl) (by kernel_rfl) (by kernel_rfl) (fun _ _ _ h => h) (Or.inl ⟨by rfl, ?hyo9⟩) (by assumption) ?resto9
      case hyo9 => (intro w hSw; (try dsimp only at hSw); go_simp; try with_reducible rfl)
      simp only [Act.put, List.setIfInBounds_toArray, List.set_cons_zero, List.set_cons_succ]
      refine take_at (i := 10) (d := some 22) (v := ?_) rfl rfl (by kernel_rfl) (by kernel_rfl) (by kernel_rfl) (fun _ _ _ h => h) (Or.inl ⟨by rfl, ?hyo10⟩) (by assumption) ?resto10
      case hyo10 => (intro w hSw; (try dsimp only at hSw); go_simp; try with_reducible rfl)
      simp only [Act.put, List.setIfInBounds_toArray, List.set_cons_zero, List.set_cons_succ]
      refine take_at (i := 11) (d := some 23) (v := ?_) rfl rfl (by kernel_rfl) (by kernel_rfl) (by kernel_rfl) (fun _ _ _ h => h) (Or.inl ⟨by rfl, ?hyo11⟩) (by assumption) ?resto11
      case hyo11 => (intro w hSw; (try dsimp only at hSw); go_simp; try with_reducible rfl)
      simp only [Act.put, List.setIfInBounds_toArray, List.set_cons_zero, List.set_cons_succ]
      refine wpAnyH_ready (rs := [12]) (by kernel_rfl) (by simp) ?_
      refine AllReadyH.cons rfl (fun K hK => ?_) AllReadyH.nil
      go_simp
      refine hK.out _ _ ?_ (fun hHeld => ?_)
      · exact HC.out _ (ext_alloc hB1 (.cells #[.int .i64 a, .int .i64 b] 46))
      clear hK K
      refine wpAnyH_ready (rs := [13]) (by kernel_rfl) (by simp) ?_
      refine AllReadyH.cons rfl (fun K hK => ?_) AllReadyH.nil
      refine step_append_cells _ rfl (.tmp 12) (.tmp 24) 33 rfl w.heap.size 46 i0 (.agg #[.int .i64 0, .int .i64 0]) 2 16 Try.underlying33 hi hz0 hz1 hz2 rfl (by decide) _ ys.length (cellsG ys) rfl (World.ownsRow.alloc hown1 _) _ 1 1 [.int .i64 a, .int .i64 b] rfl rfl (pair_src _ _ _ _ _ (Lib.hid rfl)) (two_ints _ _) (by have := HL.out; have := HN.out; unfold maxLen; omega) (by have := HL.out; have := HN.out; omega) (ext_alloc hB1 (.cells #[.int .i64 a, .int .i64 b] 46)).size ?_
      intro v2 w2 hown2 hgrow2
      have hN := hown1.grow (g := (a, b)) hB1 hB1.size hown2 hgrow2
      clear hown2 hgrow2
      refine hK.out _ _ ?_ (fun hHeld => ?_)
      · exact HC.out _ hN.2
      clear hK K
      change wpAnyH _ _ _ _ _ _ _ (Act.put _ (some 25) v2) w2
      simp only [Act.put, List.setIfInBounds_toArray, List.set_cons_zero, List.set_cons_succ]
      refine take_at (i := 14) (d := some 3) (v := ?_) rfl rfl (by kernel_rfl) (by kernel_rfl) (by kernel_rfl) (fun _ _ _ h => h) (Or.inl ⟨by rfl, ?hyo14⟩) (by assumption) ?resto14
      case hyo14 => (intro w hSw; (try dsimp only at hSw); go_simp; try with_reducible rfl)
      simp only [Act.put, List.setIfInBounds_toArray, List.set_cons_zero, List.set_cons_succ]
      refine wpAnyH_done (by kernel_rfl) ?_ _
      go_wp2_with fail
      go_roundw
      case rel => exact ⟨k + 1, hlt, by go_num, by rw [HT.out, HG.out]; exact hN.1, hN.2⟩
      case measure => simp [intOf]; omega
    · obtain rfl : k = gs.length := by omega
      rw [List.take_length] at hown
      go_wp2_with fail
      go_ret
      exact ⟨_, rfl, hown, hB⟩
end Go.Proofs.Ytljgfallhnlebaa
