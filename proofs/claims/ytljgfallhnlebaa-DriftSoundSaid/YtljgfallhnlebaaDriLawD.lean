/- Law 4's DriftSound, walked from package drift's contracts. -/
import Derived.Test.YtljgfallhnlebaaDriLawB
namespace Go.Proofs.Ytljgfallhnlebaa
open Go.RowKit

set_option maxRecDepth 100000 in
set_option maxHeartbeats 8000000 in
theorem driftSound_any (G : DriftC) (r : Int) (v : Value) (gs : List (Int × Int)) (w : World) (hr : Fits r) (hl : Gaps w w.heap.size v gs) (hf : ∀ g ∈ gs, Fits g.1 ∧ Fits g.2) (hbig : gs.length ≤ 9223372036854775807) :
    Calls Try.prog 6 #[.int .i64 r, v] w fun e w' => e = .returned (.bool true) ∧ Below w.heap.size w w' := by
  have C0 := Lib.hid (alive4_any G)
  have HL := Lib.hid hl
  obtain ⟨A, c, rfl⟩ := hl.len
  by_cases h30 : 30 < gs.length
  · have h30' : 30 < (gs.length : Int) := by omega
    clear hl hf G hr
    go_enter Try.func6, Try.ntmps6
    go_wp2_with fail
    refine (C0.out _).mono ?_; rintro e w1 ⟨rfl, h1⟩
    go_wp2_with fail
    go_ret
    exact ⟨rfl, h1⟩
  have h30' : ¬ 30 < (gs.length : Int) := by omega
  have CH := Lib.hid fun (W : World) (h : Gaps W W.heap.size (.slice A gs.length c) gs) => G.honest r _ gs W hr h hf (by omega)
  have HG := Lib.hid G
  have HFR := Lib.hid hr
  clear hl hf G hr
  have hB := Below.refl w.heap.size w
  cases hh : honestB r gs with
  | false =>
    rw [hh] at CH
    clear hh
    go_enter Try.func6, Try.ntmps6
    go_wp2_with fail
    refine (C0.out _).mono ?_; rintro e w1 ⟨rfl, h⟩
    replace hB := ext_step hB h
    go_wp2_with fail
    refine (CH.out _ ((HL.out.below hB).more hB.size)).mono ?_; rintro e w2 ⟨rfl, h⟩
    replace hB := ext_step hB h
    go_wp2_with fail
    go_ret
    exact ⟨rfl, hB⟩
  | true =>
    rw [hh] at CH
    have HH := Lib.hid (honest_iff.1 hh)
    clear hh
    go_enter Try.func6, Try.ntmps6
    go_wp2_with fail
    refine (C0.out _).mono ?_; rintro e w1 ⟨rfl, h⟩
    replace hB := ext_step hB h
    go_wp2_with fail
    refine (CH.out _ ((HL.out.below hB).more hB.size)).mono ?_; rintro e w2 ⟨rfl, h⟩
    replace hB := ext_step hB h
    clear h C0 CH
    go_wp2_with fail
    go_loopw [5] (fun i wr => ∃ k : Nat, k ≤ gs.length ∧ i = .int .i64 k ∧ Below w.heap.size w wr) (fun i _ => gs.length - (intOf i).toNat)
    case atStart => exact ⟨0, Nat.zero_le _, rfl, hB⟩
    case round =>
      clear hB
      obtain ⟨k, hk, rfl, hB⟩ := hrel
      by_cases hlt : k < gs.length
      · go_wp2_with fail
        go_loopw [6] (fun i wr => ∃ l : Nat, l ≤ gs.length ∧ i = .int .i64 l ∧ Below w.heap.size w wr) (fun i _ => gs.length - (intOf i).toNat)
        case atStart => exact ⟨0, Nat.zero_le _, rfl, hB⟩
        case round =>
          clear hB
          obtain ⟨l, hl, rfl, hB⟩ := hrel
          by_cases hlt2 : l < gs.length
          · obtain ⟨ad, rfl, HC⟩ := HL.out.hold (by omega)
            obtain ⟨c1, c2⟩ := HC _ hB k hlt
            obtain ⟨c3, c4⟩ := HC _ hB l hlt2
            have i0 : (0 : Int) ≤ (k : Int) := by omega
            have i1 : (k : Int) < (gs.length : Int) := by omega
            have j0 : (0 : Int) ≤ (l : Int) := by omega
            have j1 : (l : Int) < (gs.length : Int) := by omega
            have t1 := time_iff.1 (HH.out.2.1 _ (List.getElem_mem hlt))
            have t2 := time_iff.1 (HH.out.2.1 _ (List.getElem_mem hlt2))
            have r1 := HH.out.1.1
            have r2 := HH.out.1.2
            have p1 := low_sound r1 r2 (HH.out.2.2 _ (List.getElem_mem hlt) _ (List.getElem_mem hlt2)) (HH.out.2.2 _ (List.getElem_mem hlt2) _ (List.getElem_mem hlt))
            have p2 := low_sound r1 r2 (HH.out.2.2 _ (List.getElem_mem hlt2) _ (List.getElem_mem hlt)) (HH.out.2.2 _ (List.getElem_mem hlt) _ (List.getElem_mem hlt2))
            clear HC
            generalize gs[k].1 = a1 at *
            generalize gs[k].2 = a2 at *
            generalize gs[l].1 = b1 at *
            generalize gs[l].2 = b2 at *
            obtain ⟨x, hx⟩ : ∃ x, b2 - a2 = x := ⟨_, rfl⟩
            obtain ⟨d, hd⟩ : ∃ d, b1 - a1 = d := ⟨_, rfl⟩
            rw [hx, hd] at p1
            rw [show a2 - b2 = -x by omega, show a1 - b1 = -d by omega] at p2
            have w1 : IntKind.i64.wrap (b2 - a2) = x := by rw [hx]; exact IntWalk.i64_in _ (by omega)
            have w2 : IntKind.i64.wrap (b1 - a1) = d := by rw [hd]; exact IntWalk.i64_in _ (by omega)
            have hfx : farB x = false := far_iff.2 (by omega)
            have hRr := rate_iff.2 ⟨r1, r2⟩
            have C1 := Lib.hid fun W => HG.out.low x r W (by unfold Fits; omega) HFR.out
            have C2 := Lib.hid fun W => HG.out.high x r W (by unfold Fits; omega) HFR.out
            unfold TwoE at C1 C2
            rw [low_good hfx hRr] at C1
            rw [high_good hfx hRr] at C2
            dsimp only at C1 C2
            have n1 : ¬ d < lowQ x r := by omega
            have n2 : ¬ -lowQ (-x) r < d := by omega
            generalize lowQ x r = lo at *
            generalize -lowQ (-x) r = hi at *
            clear t1 t2 p1 p2 hx hd hfx hRr r1 r2
            go_upto_region 11 with fail
            go_quiet (fail)
            go_wp2_with fail
            go_quiet (fail)
            go_wp2_with fail
            refine (C1.out _).mono ?_; rintro e w3 ⟨rfl, h⟩
            replace hB := ext_step (ext_drewN hB _) h
            go_wp2_with fail
            refine (C2.out _).mono ?_; rintro e w4 ⟨rfl, h⟩
            replace hB := ext_step hB h
            clear c1 c2 c3 c4 w1 w2
            go_wp2_with fail
            go_roundw
            case rel => exact ⟨l + 1, hlt2, by go_num, hB⟩
            case measure => simp [intOf]; omega
          · go_wp2_with fail
            go_roundw
            case rel => exact ⟨k + 1, hlt, by go_num, hB⟩
            case measure => simp [intOf]; omega
      · go_wp2_with fail
        go_ret
        exact ⟨rfl, hB⟩
end Go.Proofs.Ytljgfallhnlebaa
