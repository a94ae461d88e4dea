/- Law 8's Of, walked: a series as the document's own one. -/
import Derived.Test.YteiilmnehdbdiaaGreatDoorLabD
import Derived.Test.YteiilmnehdbdiaaGreatDoorLabO
import Derived.Test.YteiilmnehdbdiaaGreatDoorPost
namespace Go.Proofs.YteiilmnehdbdiaaGreatDoor
open Go.RowKit

set_option maxRecDepth 100000 in
theorem label8_info : (Tryz.prog.info? 48).map (fun i => (i.zero, i.size, i.bytes)) = some (some (.agg #[.string ByteArray.empty, .string ByteArray.empty]), 2, 32) := by kernel_rfl
set_option maxRecDepth 100000 in
set_option maxHeartbeats 4000000 in
theorem of8_any (n : ByteArray) (u : Value) (x : List Lab) (w : World) (hx : Labs w w.heap.size u x) (hn : x.length ≤ 1000000) :
    Calls Tryz.prog 12 #[.agg #[.string n, u]] w fun e w' => ∃ v, e = .returned (.agg #[.string n, v]) ∧ OwnB 48 w' w.heap.size v x ∧ Below w.heap.size w w' := by
  obtain ⟨i0, hi, hz0, hz1, hz2⟩ := info_parts label8_info
  obtain ⟨A0, c0, rfl⟩ := hx.len
  have HX := Lib.hid hx
  have HN := Lib.hid hn
  clear hx hn
  have aS := ((At2.new w (.string n) (.slice A0 x.length c0) 24).alloc (.cells #[.string ByteArray.empty, .slice none 0 0] 32)).alloc (.cells #[.string n, .slice none 0 0] 32)
  have aR := (At2.new (w.alloc (.cells #[.string n, .slice A0 x.length c0] 24)) (.string ByteArray.empty) (.slice none 0 0) 32).alloc (.cells #[.string n, .slice none 0 0] 32)
  have aO := At2.new ((w.alloc (.cells #[.string n, .slice A0 x.length c0] 24)).alloc (.cells #[.string ByteArray.empty, .slice none 0 0] 32)) (.string n) (.slice none 0 0) 32
  have hW := grew3 w (.cells #[.string n, .slice A0 x.length c0] 24) (.cells #[.string ByteArray.empty, .slice none 0 0] 32) (.cells #[.string n, .slice none 0 0] 32)
  rw [World.size_alloc] at aR
  rw [World.size_alloc, World.size_alloc] at aO
  obtain ⟨a0, a1, -, -⟩ := At2.new w (.string n) (.slice A0 x.length c0) 24
  have hsz0 : w.heap.size + 1 + 1 + 1 ≤ (((w.alloc (.cells #[.string n, .slice A0 x.length c0] 24)).alloc (.cells #[.string ByteArray.empty, .slice none 0 0] 32)).alloc (.cells #[.string n, .slice none 0 0] 32)).heap.size := by simp
  have HS := Lib.hid aS
  have HR := Lib.hid aR
  have HO := Lib.hid aO
  have HW := Lib.hid hW
  clear aS aR aO hW
  go_enter Tryz.func12, Tryz.ntmps12
  go_wp2_with fail
  clear a0 a1
  change Code.wp _ _ _ _ (((w.alloc (.cells #[.string n, .slice A0 x.length c0] 24)).alloc (.cells #[.string ByteArray.empty, .slice none 0 0] 32)).alloc (.cells #[.string n, .slice none 0 0] 32))
  generalize ((w.alloc (.cells #[.string n, .slice A0 x.length c0] 24)).alloc (.cells #[.string ByteArray.empty, .slice none 0 0] 32)).alloc (.cells #[.string n, .slice none 0 0] 32) = W at *
  go_loopw [4] (fun i wr => ∃ (k : Nat) (o : Value), k ≤ x.length ∧ i = .int .i64 k ∧ At2 wr w.heap.size (.string n) (.slice A0 x.length c0) ∧ At2 wr (w.heap.size + 1) (.string ByteArray.empty) (.slice none 0 0) ∧ At2 wr (w.heap.size + 1 + 1) (.string n) o ∧ OwnB 48 wr (w.heap.size + 1 + 1 + 1) o (x.take k) ∧ Below w.heap.size w wr ∧ w.heap.size + 1 + 1 + 1 ≤ wr.heap.size) (fun i _ => x.length - (intOf i).toNat)
  case atStart => exact ⟨0, _, Nat.zero_le _, rfl, HS.out, HR.out, HO.out, OwnB.nil_ _ _ _, HW.out, hsz0⟩
  case round =>
    clear HS HR HO HW
    obtain ⟨k, o, hk, rfl, aS, aR, aO, hown, hB, hsz⟩ := hrel
    by_cases hlt : k < x.length
    · obtain ⟨ax, rfl, hbx, hcx⟩ := HX.out.at_ (by omega)
      obtain ⟨Ao, co, rfl⟩ := hown.val
      have j0 : (0 : Int) ≤ (k : Int) := by omega
      have j1 : (k : Int) < (x.length : Int) := by omega
      have HT : Hid (x.take (k + 1) = x.take k ++ [(x[k].1, x[k].2)]) := Lib.hid (List.take_succ_eq_append_getElem hlt)
      have HL : Hid ((x.take k).length = k) := Lib.hid (by rw [List.length_take]; omega)
      have HC : Hid (∀ W', Below w.heap.size w W' → At2 W' w.heap.size (.string n) (.slice (some ax) x.length c0) → At2 W' (w.heap.size + 1) (.string ByteArray.empty) (.slice none 0 0) → W'.cell? ⟨w.heap.size, 1, none⟩ = some (.slice (some ax) x.length c0) ∧ W'.cell? (ax.add (k * 2)) = some (.string x[k].1) ∧ W'.cell? ⟨(ax.add (k * 2)).block, (ax.add (k * 2)).off + 1, none⟩ = some (.string x[k].2)) := Lib.hid fun W' h' q _ => by
        have x1 := (h'.cell (by rw [block_of_add]; exact hbx)).trans (hcx k hlt).2
        rw [add_next] at x1
        exact ⟨q.c1, (h'.cell (by rw [block_of_add]; exact hbx)).trans (hcx k hlt).1, x1⟩
      clear hcx
      generalize x[k].1 = p0 at *
      generalize x[k].2 = p1 at *
      generalize x.take k = ys at *
      obtain ⟨s0, s1, -, -⟩ := id aS
      go_wp2_with fail
      clear s0 s1
      have hB1 := ext_drew hB
      have aS1 := aS.drew
      have aR1 := aR.drew
      have aO1 := aO.drew
      have hown1 := hown.drew
      have hsz1 : w.heap.size + 1 + 1 + 1 ≤ wr.drew.heap.size := hsz
      refine wp_region_held_drew (S := fun w' => w'.cell? ⟨w.heap.size, 1, none⟩ = some (.slice (some ax) x.length c0) ∧ w'.cell? (ax.add (k * 2)) = some (.string p0) ∧ w'.cell? ⟨(ax.add (k * 2)).block, (ax.add (k * 2)).off + 1, none⟩ = some (.string p1)) (by kernel_rfl) ?_ (fun hHeld => ?_)
      · exact HC.out _ hB1 aS1 aR1
      clear hB hown hsz aS aR aO
      generalize wr.drew = w1 at *
      refine take_at (i := 0) (d := some 15) (v := ?_) rfl rfl (by kernel_rfl) (by kernel_rfl) (by kernel_rfl) (fun _ _ _ h => h) (Or.inl ⟨by rfl, ?hyf1⟩) (by assumption) ?restf1
      case hyf1 => (intro w hSw; (try dsimp only at hSw); go_simp; try with_reducible rfl)
      (try simp only [Act.put]); (try simp only [List.setIfInBounds_toArray]); (try simp only [List.set_cons_succ]); (try simp only [List.set_cons_zero])
      refine take_at (i := 2) (d := some 17) (v := ?_) rfl rfl (by kernel_rfl) (by kernel_rfl) (by kernel_rfl) (fun _ _ _ h => h) (Or.inl ⟨by rfl, ?hyf2⟩) (by assumption) ?restf2
      case hyf2 => (intro w hSw; (try dsimp only at hSw); go_simp; try with_reducible rfl)
      (try simp only [Act.put]); (try simp only [List.setIfInBounds_toArray]); (try simp only [List.set_cons_succ]); (try simp only [List.set_cons_zero])
      refine take_at (i := 3) (d := some 18) (v := ?_) rfl rfl (by kernel_rfl) (by kernel_rfl) (by kernel_rfl) (fun _ _ _ h => h) (Or.inl ⟨by rfl, ?hyf3⟩) (by assumption) ?restf3
      case hyf3 => (intro w hSw; (try dsimp only at hSw); go_simp; try with_reducible rfl)
      (try simp only [Act.put]); (try simp only [List.setIfInBounds_toArray]); (try simp only [List.set_cons_succ]); (try simp only [List.set_cons_zero])
      refine take_at (i := 4) (d := some 19) (v := ?_) rfl rfl (by kernel_rfl) (by kernel_rfl) (by kernel_rfl) (fun _ _ _ h => h) (Or.inl ⟨by rfl, ?hyf4⟩) (by assumption) ?restf4
      case hyf4 => (intro w hSw; (try dsimp only at hSw); go_simp; try with_reducible rfl)
      (try simp only [Act.put]); (try simp only [List.setIfInBounds_toArray]); (try simp only [List.set_cons_succ]); (try simp only [List.set_cons_zero])
      refine take_at (i := 5) (d := some 20) (v := ?_) rfl rfl (by kernel_rfl) (by kernel_rfl) (by kernel_rfl) (fun _ _ _ h => h) (Or.inl ⟨by rfl, ?hyf5⟩) (by assumption) ?restf5
      case hyf5 => (intro w hSw; (try dsimp only at hSw); go_simp; try with_reducible rfl)
      (try simp only [Act.put]); (try simp only [List.setIfInBounds_toArray]); (try simp only [List.set_cons_succ]); (try simp only [List.set_cons_zero])
      refine take_at (i := 6) (d := some 21) (v := ?_) rfl rfl (by kernel_rfl) (by kernel_rfl) (by kernel_rfl) (fun _ _ _ h => h) (Or.inl ⟨by rfl, ?hyf6⟩) (by assumption) ?restf6
      case hyf6 => (intro w hSw; (try dsimp only at hSw); go_simp; try with_reducible rfl)
      (try simp only [Act.put]); (try simp only [List.setIfInBounds_toArray]); (try simp only [List.set_cons_succ]); (try simp only [List.set_cons_zero])
      refine take_at (i := 7) (d := some 22) (v := ?_) rfl rfl (by kernel_rfl) (by kernel_rfl) (by kernel_rfl) (fun _ _ _ h => h) (Or.inl ⟨by rfl, ?hyf7⟩) (by assumption) ?restf7
      case hyf7 => (intro w hSw; (try dsimp only at hSw); go_simp; try with_reducible rfl)
      (try simp only [Act.put]); (try simp only [List.setIfInBounds_toArray]); (try simp only [List.set_cons_succ]); (try simp only [List.set_cons_zero])
      refine take_at (i := 8) (d := some 23) (v := ?_) rfl rfl (by kernel_rfl) (by kernel_rfl) (by kernel_rfl) (fun _ _ _ h => h) (Or.inl ⟨by rfl, ?hyf8⟩) (by assumption) ?restf8
      case hyf8 => (intro w hSw; (try dsimp only at hSw); go_simp; try with_reducible rfl)
      (try simp only [Act.put]); (try simp only [List.setIfInBounds_toArray]); (try simp only [List.set_cons_succ]); (try simp only [List.set_cons_zero])
      refine take_at (i := 9) (d := some 24) (v := ?_) rfl rfl (by kernel_rfl) (by kernel_rfl) (by kernel_rfl) (fun _ _ _ h => h) (Or.inl ⟨by rfl, ?hyf9⟩) (by assumption) ?restf9
      case hyf9 => (intro w hSw; (try dsimp only at hSw); go_simp; try with_reducible rfl)
      (try simp only [Act.put]); (try simp only [List.setIfInBounds_toArray]); (try simp only [List.set_cons_succ]); (try simp only [List.set_cons_zero])
      refine take_at (i := 10) (d := some 25) (v := ?_) rfl rfl (by kernel_rfl) (by kernel_rfl) (by kernel_rfl) (fun _ _ _ h => h) (Or.inl ⟨by rfl, ?hyf10⟩) (by assumption) ?restf10
      case hyf10 => (intro w hSw; (try dsimp only at hSw); go_simp; try with_reducible rfl)
      (try simp only [Act.put]); (try simp only [List.setIfInBounds_toArray]); (try simp only [List.set_cons_succ]); (try simp only [List.set_cons_zero])
      refine take_at (i := 11) (d := some 26) (v := ?_) rfl rfl (by kernel_rfl) (by kernel_rfl) (by kernel_rfl) (fun _ _ _ h => h) (Or.inl ⟨by rfl, ?hyf11⟩) (by assumption) ?restf11
      case hyf11 => (intro w hSw; (try dsimp only at hSw); go_simp; try with_reducible rfl)
      (try simp only [Act.put]); (try simp only [List.setIfInBounds_toArray]); (try simp only [List.set_cons_succ]); (try simp only [List.set_cons_zero])
      refine take_at (i := 12) (d := some 27) (v := ?_) rfl rfl (by kernel_rfl) (by kernel_rfl) (by kernel_rfl) (fun _ _ _ h => h) (Or.inl ⟨by rfl, ?hyf12⟩) (by assumption) ?restf12
      case hyf12 => (intro w hSw; (try dsimp only at hSw); go_simp; try with_reducible rfl)
      (try simp only [Act.put]); (try simp only [List.setIfInBounds_toArray]); (try simp only [List.set_cons_succ]); (try simp only [List.set_cons_zero])
      refine take_at (i := 13) (d := some 28) (v := ?_) rfl rfl (by kernel_rfl) (by kernel_rfl) (by kernel_rfl) (fun _ _ _ h => h) (Or.inl ⟨by rfl, ?hyf13⟩) (by assumption) ?restf13
      case hyf13 => (intro w hSw; (try dsimp only at hSw); go_simp; try with_reducible rfl)
      (try simp only [Act.put]); (try simp only [List.setIfInBounds_toArray]); (try simp only [List.set_cons_succ]); (try simp only [List.set_cons_zero])
      refine take_at (i := 14) (d := some 29) (v := ?_) rfl rfl (by kernel_rfl) (by kernel_rfl) (by kernel_rfl) (fun _ _ _ h => h) (Or.inl ⟨by rfl, ?hyf14⟩) (by assumption) ?restf14
      case hyf14 => (intro w hSw; (try dsimp only at hSw); go_simp; try with_reducible rfl)
      (try simp only [Act.put]); (try simp only [List.setIfInBounds_toArray]); (try simp only [List.set_cons_succ]); (try simp only [List.set_cons_zero])
      refine wpAnyH_ready (rs := [1, 15]) (by kernel_rfl) (by simp) ?_
      refine AllReadyH.cons rfl (fun K hK => ?_) (AllReadyH.cons rfl (fun K hK => ?_) AllReadyH.nil)
      · have q1 := aO1.c1
        go_simp
        clear q1
        refine hK.out _ _ ?_ (fun hHeld => ?_)
        · exact HC.out _ hB1 aS1 aR1
        clear hK K
        (try simp only [Act.put]); (try simp only [List.setIfInBounds_toArray]); (try simp only [List.set_cons_succ]); (try simp only [List.set_cons_zero])
        refine wpAnyH_ready (rs := [15]) (by kernel_rfl) (by simp) ?_
        refine AllReadyH.cons rfl (fun K hK => ?_) AllReadyH.nil
        have hB2 := ext_alloc hB1 (.cells #[.string p0, .string p1] 48)
        have aS2 := aS1.alloc (.cells #[.string p0, .string p1] 48)
        have aR2 := aR1.alloc (.cells #[.string p0, .string p1] 48)
        have aO2 := aO1.alloc (.cells #[.string p0, .string p1] 48)
        go_simp
        refine hK.out _ _ ?_ (fun hHeld => ?_)
        · exact HC.out _ hB2 aS2 aR2
        clear hK K
        (try simp only [Act.put]); (try simp only [List.setIfInBounds_toArray]); (try simp only [List.set_cons_succ]); (try simp only [List.set_cons_zero])
        refine wpAnyH_ready (rs := [16]) (by kernel_rfl) (by simp) ?_
        refine AllReadyH.cons rfl (fun K hK => ?_) AllReadyH.nil
        refine step_append_cells _ rfl (.tmp 16) (.tmp 30) 30 rfl (w.heap.size + 1 + 1 + 1) 48 i0 (.agg #[.string ByteArray.empty, .string ByteArray.empty]) 2 32 Tryz.underlying30 hi hz0 hz1 hz2 rfl (by decide) _ ys.length (cellsB ys) rfl (World.ownsRow.alloc hown1 _) _ 1 1 [.string p0, .string p1] rfl rfl (lab_src _ _ _ _ _ (Lib.hid rfl)) (two_strs _ _) (by have := HL.out; have := HN.out; unfold maxLen; omega) (by have := HL.out; have := HN.out; omega) (Nat.le_trans hsz1 (by simp)) ?_
        intro v2 w2 hown2 hgrow2
        obtain ⟨hown3, hq⟩ := hown1.grew hsz1 hown2 hgrow2
        clear hown2 hgrow2
        obtain ⟨A2, c2, rfl⟩ := hown3.val1
        have hB3 := hB1.trans (hq.mono (by omega))
        have aS3 := aS1.low hq (by omega)
        have aR3 := aR1.low hq (by omega)
        have aO3 := aO1.low hq (by omega)
        refine hK.out _ _ ?_ (fun hHeld => ?_)
        · exact HC.out _ hB3 aS3 aR3
        clear hK K
        (try simp only [Act.put]); (try simp only [List.setIfInBounds_toArray]); (try simp only [List.set_cons_succ]); (try simp only [List.set_cons_zero])
        refine take_at (i := 17) (d := some 32) (v := ?_) rfl rfl (by kernel_rfl) (by kernel_rfl) (by kernel_rfl) (fun _ _ _ h => h) (Or.inl ⟨by rfl, ?hyf15⟩) (by assumption) ?restf15
        case hyf15 => (intro w hSw; (try dsimp only at hSw); go_simp; try with_reducible rfl)
        (try simp only [Act.put]); (try simp only [List.setIfInBounds_toArray]); (try simp only [List.set_cons_succ]); (try simp only [List.set_cons_zero])
        refine wpAnyH_ready (rs := [18]) (by kernel_rfl) (by simp) ?_
        refine AllReadyH.cons rfl (fun K hK => ?_) AllReadyH.nil
        have hB4 := hB3.setCell (p := ⟨w.heap.size + 1 + 1, 1, none⟩) (by dsimp only; omega) (.slice A2 (ys.length + 1) c2)
        have aS4 := aS3.other (b' := w.heap.size + 1 + 1) (by omega) 1 (.slice A2 (ys.length + 1) c2)
        have aR4 := aR3.other (b' := w.heap.size + 1 + 1) (by omega) 1 (.slice A2 (ys.length + 1) c2)
        have aO4 := aO3.set1 (.slice A2 (ys.length + 1) c2)
        have hown4 := hown3.away (p := ⟨w.heap.size + 1 + 1, 1, none⟩) (by simp) (.slice A2 (ys.length + 1) c2)
        obtain ⟨q0, q1, q2, q3⟩ := id aO3
        go_simp
        clear q0 q1 q2 q3
        refine hK.out _ _ ?_ (fun hHeld => ?_)
        · exact HC.out _ hB4 aS4 aR4
        clear hK K
        (try simp only [Act.put]); (try simp only [List.setIfInBounds_toArray]); (try simp only [List.set_cons_succ]); (try simp only [List.set_cons_zero])
        refine wpAnyH_done (by kernel_rfl) ?_ _
        have hn9 := HN.out
        go_wp2_with fail
        go_roundw
        case rel => exact ⟨k + 1, _, hlt, by go_num, aS4, aR4, aO4, by rw [HT.out]; exact hown4, hB4, by have := hq.size; simp; omega⟩
        case measure => simp [intOf]; omega
      · have hB2 := ext_alloc hB1 (.cells #[.string p0, .string p1] 48)
        have aS2 := aS1.alloc (.cells #[.string p0, .string p1] 48)
        have aR2 := aR1.alloc (.cells #[.string p0, .string p1] 48)
        have aO2 := aO1.alloc (.cells #[.string p0, .string p1] 48)
        go_simp
        refine hK.out _ _ ?_ (fun hHeld => ?_)
        · exact HC.out _ hB2 aS2 aR2
        clear hK K
        (try simp only [Act.put]); (try simp only [List.setIfInBounds_toArray]); (try simp only [List.set_cons_succ]); (try simp only [List.set_cons_zero])
        refine wpAnyH_ready (rs := [1]) (by kernel_rfl) (by simp) ?_
        refine AllReadyH.cons rfl (fun K hK => ?_) AllReadyH.nil
        have q1 := aO2.c1
        go_simp
        clear q1
        refine hK.out _ _ ?_ (fun hHeld => ?_)
        · exact HC.out _ hB2 aS2 aR2
        clear hK K
        (try simp only [Act.put]); (try simp only [List.setIfInBounds_toArray]); (try simp only [List.set_cons_succ]); (try simp only [List.set_cons_zero])
        refine wpAnyH_ready (rs := [16]) (by kernel_rfl) (by simp) ?_
        refine AllReadyH.cons rfl (fun K hK => ?_) AllReadyH.nil
        refine step_append_cells _ rfl (.tmp 16) (.tmp 30) 30 rfl (w.heap.size + 1 + 1 + 1) 48 i0 (.agg #[.string ByteArray.empty, .string ByteArray.empty]) 2 32 Tryz.underlying30 hi hz0 hz1 hz2 rfl (by decide) _ ys.length (cellsB ys) rfl (World.ownsRow.alloc hown1 _) _ 1 1 [.string p0, .string p1] rfl rfl (lab_src _ _ _ _ _ (Lib.hid rfl)) (two_strs _ _) (by have := HL.out; have := HN.out; unfold maxLen; omega) (by have := HL.out; have := HN.out; omega) (Nat.le_trans hsz1 (by simp)) ?_
        intro v2 w2 hown2 hgrow2
        obtain ⟨hown3, hq⟩ := hown1.grew hsz1 hown2 hgrow2
        clear hown2 hgrow2
        obtain ⟨A2, c2, rfl⟩ := hown3.val1
        have hB3 := hB1.trans (hq.mono (by omega))
        have aS3 := aS1.low hq (by omega)
        have aR3 := aR1.low hq (by omega)
        have aO3 := aO1.low hq (by omega)
        refine hK.out _ _ ?_ (fun hHeld => ?_)
        · exact HC.out _ hB3 aS3 aR3
        clear hK K
        (try simp only [Act.put]); (try simp only [List.setIfInBounds_toArray]); (try simp only [List.set_cons_succ]); (try simp only [List.set_cons_zero])
        refine take_at (i := 17) (d := some 32) (v := ?_) rfl rfl (by kernel_rfl) (by kernel_rfl) (by kernel_rfl) (fun _ _ _ h => h) (Or.inl ⟨by rfl, ?hyf16⟩) (by assumption) ?restf16
        case hyf16 => (intro w hSw; (try dsimp only at hSw); go_simp; try with_reducible rfl)
        (try simp only [Act.put]); (try simp only [List.setIfInBounds_toArray]); (try simp only [List.set_cons_succ]); (try simp only [List.set_cons_zero])
        refine wpAnyH_ready (rs := [18]) (by kernel_rfl) (by simp) ?_
        refine AllReadyH.cons rfl (fun K hK => ?_) AllReadyH.nil
        have hB4 := hB3.setCell (p := ⟨w.heap.size + 1 + 1, 1, none⟩) (by dsimp only; omega) (.slice A2 (ys.length + 1) c2)
        have aS4 := aS3.other (b' := w.heap.size + 1 + 1) (by omega) 1 (.slice A2 (ys.length + 1) c2)
        have aR4 := aR3.other (b' := w.heap.size + 1 + 1) (by omega) 1 (.slice A2 (ys.length + 1) c2)
        have aO4 := aO3.set1 (.slice A2 (ys.length + 1) c2)
        have hown4 := hown3.away (p := ⟨w.heap.size + 1 + 1, 1, none⟩) (by simp) (.slice A2 (ys.length + 1) c2)
        obtain ⟨q0, q1, q2, q3⟩ := id aO3
        go_simp
        clear q0 q1 q2 q3
        refine hK.out _ _ ?_ (fun hHeld => ?_)
        · exact HC.out _ hB4 aS4 aR4
        clear hK K
        (try simp only [Act.put]); (try simp only [List.setIfInBounds_toArray]); (try simp only [List.set_cons_succ]); (try simp only [List.set_cons_zero])
        refine wpAnyH_done (by kernel_rfl) ?_ _
        have hn9 := HN.out
        go_wp2_with fail
        go_roundw
        case rel => exact ⟨k + 1, _, hlt, by go_num, aS4, aR4, aO4, by rw [HT.out]; exact hown4, hB4, by have := hq.size; simp; omega⟩
        case measure => simp [intOf]; omega
    · obtain rfl : k = x.length := by omega
      rw [List.take_length] at hown
      obtain ⟨Ao, co, rfl⟩ := hown.val
      obtain ⟨s0, s1, -, -⟩ := id aS
      obtain ⟨o0, o1, o2, o3⟩ := id aO
      obtain ⟨r0, r1, r2, r3⟩ := id aR
      have HE := Lib.hid (((aO.other (b' := w.heap.size + 1) (by omega) 0 (.string n)).other (b' := w.heap.size + 1) (by omega) 1 (.slice Ao x.length co)))
      have HF := Lib.hid ((aR.set0 (.string n)).set1 (.slice Ao x.length co))
      have HG := Lib.hid (((hown.away (p := ⟨w.heap.size + 1, 0, none⟩) (by simp) (.string n)).away (p := ⟨w.heap.size + 1, 1, none⟩) (by simp) (.slice Ao x.length co)).less (show w.heap.size ≤ w.heap.size + 1 + 1 + 1 by omega))
      have HB2 := Lib.hid ((hB.setCell (p := ⟨w.heap.size + 1, 0, none⟩) (by simp) (.string n)).setCell (p := ⟨w.heap.size + 1, 1, none⟩) (by simp) (.slice Ao x.length co))
      go_wp2_with fail
      have z0 := HF.out.c0
      have z1 := HF.out.c1
      exact bodyPost_ret (v := .agg #[.string n, .slice Ao x.length co]) (by simp [results, Tryz.results12, go_sem, z0, z1]) rfl ⟨_, rfl, HG.out, HB2.out⟩
end Go.Proofs.YteiilmnehdbdiaaGreatDoor
