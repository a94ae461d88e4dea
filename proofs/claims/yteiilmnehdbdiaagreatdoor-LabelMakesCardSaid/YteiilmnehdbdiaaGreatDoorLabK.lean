/- noonmarkref08's Make, walked. -/
import Derived.Test.YteiilmnehdbdiaaGreatDoorLabF
import Derived.Test.YteiilmnehdbdiaaGreatDoorLabI
import Derived.IntWalk
namespace Go.Proofs.YteiilmnehdbdiaaGreatDoor
open Go.RowKit

/-- What a call of Make answers. -/
def MadeE (t : TypeId) (w : World) (q : ByteArray × List Lab × Int) (e : Ending) (w' : World) : Prop :=
  ∃ v, e = .returned (.tuple #[.agg #[.string q.1, v], .int .i64 q.2.2]) ∧ OwnB t w' w.heap.size v q.2.1 ∧ Below w.heap.size w w'
theorem MadeE.no {t : TypeId} {w w' : World} {q : ByteArray × List Lab × Int} {er : Int} (hq : q = (ByteArray.empty, [], er)) (hB : Below w.heap.size w w') : MadeE t w q (.returned (.tuple #[.agg #[.string ByteArray.empty, .slice none 0 0], .int .i64 er])) w' := by
  subst hq
  exact ⟨_, rfl, OwnB.nil_ _ _ _, hB⟩
theorem makeE_bad {n : ByteArray} {x : List Lab} (h1 : IsName n) (h2 : ¬ 8 < x.length) (h3 : ¬ ∀ l ∈ x, IsName l.1 ∧ IsVal l.2) : makeE n x = (ByteArray.empty, [], 10) := by
  unfold makeE
  rw [if_neg (not_not_intro h1), if_neg h2, if_pos h3]
theorem makeE_ok {n : ByteArray} {x : List Lab} (h1 : IsName n) (h2 : ¬ 8 < x.length) (h3 : ∀ l ∈ x, IsName l.1 ∧ IsVal l.2) : makeE n x = madeO n (makeL [] x) := by
  unfold makeE
  rw [if_neg (not_not_intro h1), if_neg h2, if_neg (not_not_intro h3)]
theorem makeL_next {acc x : List Lab} {k : Nat} {p : Lab} (hk : k < x.length) (hp : x[k] = p) (hm : makeL [] x = makeL acc (x.drop k)) (hs : Sorted acc) (hl : acc.length = k) {j : Nat} (hj : j ≤ acc.length)
    (hd : ∀ y ∈ acc.drop j, ltS p.1 y.1 = true) (ht : ∀ i (h : i < acc.length), i + 1 = j → ltS acc[i].1 p.1 = true) : makeL [] x = makeL (bub acc p j) (x.drop (k + 1)) ∧ Sorted (bub acc p j) ∧ (bub acc p j).length = k + 1 := by
  refine ⟨?_, bub_sorted hs hd ht hj, by rw [bub_len hj, hl]⟩
  rw [hm, List.drop_eq_getElem_cons hk, hp, makeL, bub_done hs hd ht hj]
  rfl
theorem makeL_there {acc x : List Lab} {k : Nat} {p : Lab} (hk : k < x.length) (hp : x[k] = p) (hm : makeL [] x = makeL acc (x.drop k)) (hs : Sorted acc) {i : Nat} (h : i < acc.length) (he : acc[i].1 = p.1) : makeL [] x = none := by
  rw [hm, List.drop_eq_getElem_cons hk, hp, makeL, bub_none hs h he]
  rfl

set_option maxRecDepth 100000 in
set_option maxHeartbeats 8000000 in
theorem rMake8_any (n : ByteArray) (u : Value) (x : List Lab) (w : World) (hx : Labs w w.heap.size u x) (hn : n.size ≤ 1000000) (hz : ∀ l ∈ x, l.1.size ≤ 1000000 ∧ l.2.size ≤ 1000000) :
    Calls Tryz.prog 11 #[.string n, u] w (MadeE 48 w (makeE n x)) := by
  obtain ⟨i0, hi, hz0, hz1, hz2⟩ := info_parts label8_info
  obtain ⟨A0, c0, rfl⟩ := hx.len
  have CN := Lib.hid fun W => rName8_any n W hn
  have HX := Lib.hid hx
  have HZ := Lib.hid hz
  clear hx hz hn
  have aR := At2.new w (.string ByteArray.empty) (.slice none 0 0) 32
  have HB := Lib.hid (grew1 w (.cells #[.string ByteArray.empty, .slice none 0 0] 32))
  obtain ⟨r0, r1, r2, r3⟩ := id aR
  by_cases hnm : IsName n
  case neg =>
    have hE : Hid (makeE n x = (ByteArray.empty, [], 10)) := Lib.hid (if_pos hnm)
    rw [decide_eq_false hnm] at CN
    clear aR hnm
    go_enter Tryz.func11, Tryz.ntmps11
    go_wp2_with fail
    refine (CN.out _).mono ?_; rintro e w1 ⟨rfl, rfl⟩
    go_wp2_with fail
    exact bodyPost_ret (v := .tuple #[.agg #[.string ByteArray.empty, .slice none 0 0], .int .i64 10]) (by simp [results, Tryz.results11, go_sem]; rfl) rfl (MadeE.no hE.out HB.out)
  rw [decide_eq_true hnm] at CN
  by_cases h8 : 8 < x.length
  · have hE : Hid (makeE n x = (ByteArray.empty, [], 17)) := Lib.hid (by unfold makeE; rw [if_neg (not_not_intro hnm), if_pos h8])
    have i1 : (8 : Int) < (x.length : Int) := by omega
    clear aR hnm
    go_enter Tryz.func11, Tryz.ntmps11
    go_wp2_with fail
    refine (CN.out _).mono ?_; rintro e w1 ⟨rfl, rfl⟩
    go_wp2_with fail
    exact bodyPost_ret (v := .tuple #[.agg #[.string ByteArray.empty, .slice none 0 0], .int .i64 17]) (by simp [results, Tryz.results11, go_sem]; rfl) rfl (MadeE.no hE.out HB.out)
  have i1 : ¬ (8 : Int) < (x.length : Int) := by omega
  have i9 : x.length ≤ 8 := by omega
  have HV : Hid (∀ k (h : k < x.length), ¬ (IsName x[k].1 ∧ IsVal x[k].2) → makeE n x = (ByteArray.empty, [], 10)) := Lib.hid fun k h hb => makeE_bad hnm h8 fun h' => hb (h' _ (List.getElem_mem h))
  have HA : Hid ((∀ j (h : j < x.length), IsName x[j].1 ∧ IsVal x[j].2) → makeE n x = madeO n (makeL [] x)) := Lib.hid fun h => makeE_ok hnm h8 fun l hl => by
    obtain ⟨j, hj, rfl⟩ := List.getElem_of_mem hl
    exact h j hj
  have HAR := Lib.hid aR
  clear aR hnm h8
  go_enter Tryz.func11, Tryz.ntmps11
  go_wp2_with fail
  refine (CN.out _).mono ?_; rintro e w1 ⟨rfl, rfl⟩
  go_wp2_with fail
  change Code.wp _ _ _ _ (w.alloc (.cells #[.string ByteArray.empty, .slice none 0 0] 32))
  have hWs : (w.alloc (.cells #[.string ByteArray.empty, .slice none 0 0] 32)).heap.size = w.heap.size + 1 := World.size_alloc _ _
  generalize w.alloc (.cells #[.string ByteArray.empty, .slice none 0 0] 32) = V at *
  go_loop [6] (fun i => ∃ k : Nat, k ≤ x.length ∧ i = .int .i64 k ∧ Hid (∀ j (h : j < x.length), j < k → IsName x[j].1 ∧ IsVal x[j].2)) (fun i => x.length - (intOf i).toNat)
  case atStart => exact ⟨0, Nat.zero_le _, rfl, Lib.hid fun j _ h => absurd h (by omega)⟩
  case round =>
    obtain ⟨k, hk, rfl, hall⟩ := hrel
    by_cases hlt : k < x.length
    · obtain ⟨ax, rfl, hbx, hcx⟩ := HX.out.at_ (by omega)
      have x0 := (HB.out.cell (p := ax.add (k * 2)) (by rw [block_of_add]; exact hbx)).trans (hcx k hlt).1
      have x1 := (HB.out.cell (p := ax.add (k * 2 + 1)) (by rw [block_of_add]; exact hbx)).trans (hcx k hlt).2
      rw [add_next] at x1
      have C1 := Lib.hid fun W => rName8_any x[k].1 W (HZ.out _ (List.getElem_mem hlt)).1
      have C2 := Lib.hid fun W => rValue8_any x[k].2 W (HZ.out _ (List.getElem_mem hlt)).2
      have j0 : (0 : Int) ≤ (k : Int) := by omega
      have j1 : (k : Int) < (x.length : Int) := by omega
      by_cases g1 : IsName x[k].1
      case neg =>
        have hE := Lib.hid (HV.out k hlt fun h => g1 h.1)
        rw [decide_eq_false g1] at C1
        clear hcx hall
        generalize x[k].1 = p0 at *
        generalize x[k].2 = p1 at *
        clear g1
        go_wp2_with fail
        refine (C1.out _).mono ?_; rintro e w1 ⟨rfl, rfl⟩
        go_wp2_with fail
        exact bodyPost_ret (v := .tuple #[.agg #[.string ByteArray.empty, .slice none 0 0], .int .i64 10]) (by simp [results, Tryz.results11, go_sem, r0, r1]; rfl) rfl (MadeE.no hE.out ((HB.out.setCell (p := ⟨w.heap.size, 0, none⟩) (Nat.le_refl _) _).setCell (p := ⟨w.heap.size, 1, none⟩) (Nat.le_refl _) _))
      rw [decide_eq_true g1] at C1
      by_cases g2 : IsVal x[k].2
      case neg =>
        have hE := Lib.hid (HV.out k hlt fun h => g2 h.2)
        rw [decide_eq_false g2] at C2
        clear hcx hall
        generalize x[k].1 = p0 at *
        generalize x[k].2 = p1 at *
        clear g1 g2
        go_wp2_with fail
        refine (C1.out _).mono ?_; rintro e w1 ⟨rfl, rfl⟩
        go_wp2_with fail
        refine (C2.out _).mono ?_; rintro e w1 ⟨rfl, rfl⟩
        go_wp2_with fail
        exact bodyPost_ret (v := .tuple #[.agg #[.string ByteArray.empty, .slice none 0 0], .int .i64 10]) (by simp [results, Tryz.results11, go_sem, r0, r1]; rfl) rfl (MadeE.no hE.out ((HB.out.setCell (p := ⟨w.heap.size, 0, none⟩) (Nat.le_refl _) _).setCell (p := ⟨w.heap.size, 1, none⟩) (Nat.le_refl _) _))
      rw [decide_eq_true g2] at C2
      have hall2 : Hid (∀ j (h : j < x.length), j < k + 1 → IsName x[j].1 ∧ IsVal x[j].2) := Lib.hid fun j hj hjk => by
        by_cases e : j = k
        · subst e; exact ⟨g1, g2⟩
        · exact hall.out j hj (by omega)
      clear hcx hall g1 g2
      generalize x[k].1 = p0 at *
      generalize x[k].2 = p1 at *
      go_wp2_with fail
      refine (C1.out _).mono ?_; rintro e w1 ⟨rfl, rfl⟩
      go_wp2_with fail
      refine (C2.out _).mono ?_; rintro e w1 ⟨rfl, rfl⟩
      go_wp2_with fail
      go_round
      case rel => exact ⟨k + 1, hlt, by go_num, hall2⟩
      case measure => simp [intOf]; omega
    · obtain rfl : k = x.length := by omega
      have HA2 := Lib.hid (HA.out fun j hj => hall.out j hj hj)
      have aO := At2.new V (.string n) (.slice none 0 0) 32
      rw [hWs] at aO
      have HO := Lib.hid aO
      have HR := Lib.hid (HAR.out.alloc (.cells #[.string n, .slice none 0 0] 32))
      have HW := Lib.hid (ext_alloc HB.out (.cells #[.string n, .slice none 0 0] 32))
      have hsz0 : w.heap.size + 1 + 1 ≤ (V.alloc (.cells #[.string n, .slice none 0 0] 32)).heap.size := by rw [World.size_alloc, hWs]; exact Nat.le_refl _
      clear aO hall HA HV HAR HB r0 r1 r2 r3
      go_wp2_with fail
      change Code.wp _ _ _ _ (V.alloc (.cells #[.string n, .slice none 0 0] 32))
      clear hWs
      generalize V.alloc (.cells #[.string n, .slice none 0 0] 32) = W at *
      go_loopw [8] (fun i wr => ∃ (k : Nat) (o : Value) (acc : List Lab), k ≤ x.length ∧ i = .int .i64 k ∧ Hid (makeL [] x = makeL acc (x.drop k)) ∧ Hid (Sorted acc) ∧ acc.length = k ∧ At2 wr w.heap.size (.string ByteArray.empty) (.slice none 0 0) ∧ At2 wr (w.heap.size + 1) (.string n) o ∧ OwnB 48 wr (w.heap.size + 1 + 1) o acc ∧ Below w.heap.size w wr ∧ w.heap.size + 1 + 1 ≤ wr.heap.size) (fun i _ => x.length - (intOf i).toNat)
      case atStart => exact ⟨0, _, [], Nat.zero_le _, rfl, Lib.hid rfl, Lib.hid List.Pairwise.nil, rfl, HR.out, HO.out, OwnB.nil_ _ _ _, HW.out, hsz0⟩
      case round =>
        clear HR HO HW hsz0
        obtain ⟨k, o, acc, hk, rfl, hm, hs, hl, aR, aO, hown, hB, hsz⟩ := hrel
        by_cases hlt : k < x.length
        · obtain ⟨ax, rfl, hbx, hcx⟩ := HX.out.at_ (by omega)
          obtain ⟨Ao, co, rfl⟩ := hown.val
          have j0 : (0 : Int) ≤ (k : Int) := by omega
          have j1 : (k : Int) < (x.length : Int) := by omega
          have HNX : Hid (∀ j, j ≤ acc.length → (∀ y ∈ acc.drop j, ltS x[k].1 y.1 = true) → (∀ i (h : i < acc.length), i + 1 = j → ltS acc[i].1 x[k].1 = true) → makeL [] x = makeL (bub acc (x[k].1, x[k].2) j) (x.drop (k + 1)) ∧ Sorted (bub acc (x[k].1, x[k].2) j) ∧ (bub acc (x[k].1, x[k].2) j).length = k + 1) := Lib.hid fun j hj hd ht => makeL_next hlt rfl hm.out hs.out hl hj hd ht
          have HTH : Hid (∀ i (h : i < acc.length), acc[i].1 = x[k].1 → makeL [] x = none) := Lib.hid fun i h he => makeL_there hlt (p := (x[k].1, x[k].2)) rfl hm.out hs.out h he
          have HC : Hid (∀ W', Below w.heap.size w W' → At2 W' w.heap.size (.string ByteArray.empty) (.slice none 0 0) → W'.cell? (ax.add (k * 2)) = some (.string x[k].1) ∧ W'.cell? ⟨(ax.add (k * 2)).block, (ax.add (k * 2)).off + 1, none⟩ = some (.string x[k].2)) := Lib.hid fun W' h' _ => by
            have x1 := (h'.cell (by rw [block_of_add]; exact hbx)).trans (hcx k hlt).2
            rw [add_next] at x1
            exact ⟨(h'.cell (by rw [block_of_add]; exact hbx)).trans (hcx k hlt).1, x1⟩
          have HL : Hid (acc.length ≤ 8) := Lib.hid (by omega)
          have HN : Hid (acc.length ≤ 8) := HL
          have HLK := Lib.hid hl
          have hlk : acc.length ≤ k := by omega
          clear hcx hm hs hl
          generalize x[k].1 = p0 at *
          generalize x[k].2 = p1 at *
          obtain ⟨o0, o1, o2, o3⟩ := id aO
          go_wp2_with fail
          clear o0 o1 o2 o3
          have hB1 := ext_drew hB
          have aR1 := aR.drew
          have aO1 := aO.drew
          have hown1 := hown.drew
          have hsz1 : w.heap.size + 1 + 1 ≤ wr.drew.heap.size := hsz
          refine wp_region_held_drew (S := fun w' => w'.cell? (ax.add (k * 2)) = some (.string p0) ∧ w'.cell? ⟨(ax.add (k * 2)).block, (ax.add (k * 2)).off + 1, none⟩ = some (.string p1)) (by kernel_rfl) ?_ (fun hHeld => ?_)
          · exact HC.out _ hB1 aR1
          clear hB hown hsz aR aO
          generalize wr.drew = w1 at *
          refine take_at (i := 0) (d := some 52) (v := ?_) rfl rfl (by kernel_rfl) (by kernel_rfl) (by kernel_rfl) (fun _ _ _ h => h) (Or.inl ⟨by rfl, ?hym1⟩) (by assumption) ?restm1
          case hym1 => (intro w hSw; (try dsimp only at hSw); go_simp; try with_reducible rfl)
          (try simp only [Act.put]); (try simp only [List.setIfInBounds_toArray]); (try simp only [List.set_cons_succ]); (try simp only [List.set_cons_zero])
          refine take_at (i := 2) (d := some 54) (v := ?_) rfl rfl (by kernel_rfl) (by kernel_rfl) (by kernel_rfl) (fun _ _ _ h => h) (Or.inl ⟨by rfl, ?hym2⟩) (by assumption) ?restm2
          case hym2 => (intro w hSw; (try dsimp only at hSw); go_simp; try with_reducible rfl)
          (try simp only [Act.put]); (try simp only [List.setIfInBounds_toArray]); (try simp only [List.set_cons_succ]); (try simp only [List.set_cons_zero])
          refine take_at (i := 3) (d := some 55) (v := ?_) rfl rfl (by kernel_rfl) (by kernel_rfl) (by kernel_rfl) (fun _ _ _ h => h) (Or.inl ⟨by rfl, ?hym3⟩) (by assumption) ?restm3
          case hym3 => (intro w hSw; (try dsimp only at hSw); go_simp; try with_reducible rfl)
          (try simp only [Act.put]); (try simp only [List.setIfInBounds_toArray]); (try simp only [List.set_cons_succ]); (try simp only [List.set_cons_zero])
          refine take_at (i := 4) (d := some 56) (v := ?_) rfl rfl (by kernel_rfl) (by kernel_rfl) (by kernel_rfl) (fun _ _ _ h => h) (Or.inl ⟨by rfl, ?hym4⟩) (by assumption) ?restm4
          case hym4 => (intro w hSw; (try dsimp only at hSw); go_simp; try with_reducible rfl)
          (try simp only [Act.put]); (try simp only [List.setIfInBounds_toArray]); (try simp only [List.set_cons_succ]); (try simp only [List.set_cons_zero])
          refine take_at (i := 5) (d := some 57) (v := ?_) rfl rfl (by kernel_rfl) (by kernel_rfl) (by kernel_rfl) (fun _ _ _ h => h) (Or.inl ⟨by rfl, ?hym5⟩) (by assumption) ?restm5
          case hym5 => (intro w hSw; (try dsimp only at hSw); go_simp; try with_reducible rfl)
          (try simp only [Act.put]); (try simp only [List.setIfInBounds_toArray]); (try simp only [List.set_cons_succ]); (try simp only [List.set_cons_zero])
          refine wpAnyH_ready (rs := [1, 6]) (by kernel_rfl) (by simp) ?_
          refine AllReadyH.cons rfl (fun K hK => ?_) (AllReadyH.cons rfl (fun K hK => ?_) AllReadyH.nil)
          · have q1 := aO1.c1
            go_simp
            clear q1
            refine hK.out _ _ ?_ (fun hHeld => ?_)
            · exact HC.out _ hB1 aR1
            clear hK K
            (try simp only [Act.put]); (try simp only [List.setIfInBounds_toArray]); (try simp only [List.set_cons_succ]); (try simp only [List.set_cons_zero])
            refine wpAnyH_ready (rs := [6]) (by kernel_rfl) (by simp) ?_
            refine AllReadyH.cons rfl (fun K hK => ?_) AllReadyH.nil
            have hB2 := ext_alloc hB1 (.cells #[.string p0, .string p1] 48)
            have aR2 := aR1.alloc (.cells #[.string p0, .string p1] 48)
            have aO2 := aO1.alloc (.cells #[.string p0, .string p1] 48)
            go_simp
            refine hK.out _ _ ?_ (fun hHeld => ?_)
            · exact HC.out _ hB2 aR2
            clear hK K
            (try simp only [Act.put]); (try simp only [List.setIfInBounds_toArray]); (try simp only [List.set_cons_succ]); (try simp only [List.set_cons_zero])
            refine wpAnyH_ready (rs := [7]) (by kernel_rfl) (by simp) ?_
            refine AllReadyH.cons rfl (fun K hK => ?_) AllReadyH.nil
            refine step_append_cells _ rfl (.tmp 53) (.tmp 58) 30 rfl (w.heap.size + 1 + 1) 48 i0 (.agg #[.string ByteArray.empty, .string ByteArray.empty]) 2 32 Tryz.underlying30 hi hz0 hz1 hz2 rfl (by decide) _ acc.length (cellsB acc) rfl (World.ownsRow.alloc hown1 _) _ 1 1 [.string p0, .string p1] rfl rfl (lab_src _ _ _ _ _ (Lib.hid rfl)) (two_strs _ _) (by have := HL.out; have := HN.out; unfold maxLen; omega) (by have := HL.out; have := HN.out; omega) (Nat.le_trans hsz1 (by simp)) ?_
            intro v2 w2 hown2 hgrow2
            obtain ⟨hown3, hq⟩ := hown1.grew hsz1 hown2 hgrow2
            clear hown2 hgrow2
            obtain ⟨A2, c2, rfl⟩ := hown3.val1
            have hB3 := hB1.trans (hq.mono (by omega))
            have aR3 := aR1.low hq (by omega)
            have aO3 := aO1.low hq (by omega)
            refine hK.out _ _ ?_ (fun hHeld => ?_)
            · exact HC.out _ hB3 aR3
            clear hK K
            (try simp only [Act.put]); (try simp only [List.setIfInBounds_toArray]); (try simp only [List.set_cons_succ]); (try simp only [List.set_cons_zero])
            refine take_at (i := 8) (d := some 60) (v := ?_) rfl rfl (by kernel_rfl) (by kernel_rfl) (by kernel_rfl) (fun _ _ _ h => h) (Or.inl ⟨by rfl, ?hym6⟩) (by assumption) ?restm6
            case hym6 => (intro w hSw; (try dsimp only at hSw); go_simp; try with_reducible rfl)
            (try simp only [Act.put]); (try simp only [List.setIfInBounds_toArray]); (try simp only [List.set_cons_succ]); (try simp only [List.set_cons_zero])
            refine wpAnyH_ready (rs := [9]) (by kernel_rfl) (by simp) ?_
            refine AllReadyH.cons rfl (fun K hK => ?_) AllReadyH.nil
            have hB4 := hB3.setCell (p := ⟨w.heap.size + 1, 1, none⟩) (by dsimp only; omega) (.slice A2 (acc.length + 1) c2)
            have aR4 := aR3.other (b' := w.heap.size + 1) (by omega) 1 (.slice A2 (acc.length + 1) c2)
            have aO4 := aO3.set1 (.slice A2 (acc.length + 1) c2)
            have hown4 := hown3.away (p := ⟨w.heap.size + 1, 1, none⟩) (by simp) (.slice A2 (acc.length + 1) c2)
            obtain ⟨q0, q1, q2, q3⟩ := id aO3
            go_simp
            clear q0 q1 q2 q3
            refine hK.out _ _ ?_ (fun hHeld => ?_)
            · exact HC.out _ hB4 aR4
            clear hK K
            (try simp only [Act.put]); (try simp only [List.setIfInBounds_toArray]); (try simp only [List.set_cons_succ]); (try simp only [List.set_cons_zero])
            refine wpAnyH_done (by kernel_rfl) ?_ _
            have hl4 : acc.length + 1 = (acc ++ [(p0, p1)]).length := by simp
            obtain ⟨g2, c3, e2, hg2, hg3⟩ := hown4.form (by simp)
            obtain rfl : A2 = some ⟨g2, 0, none⟩ := by injection e2
            clear e2 hl4 HC
            have hsz4 : w.heap.size + 1 + 1 ≤ (w2.setCell ⟨w.heap.size + 1, 1, none⟩ (.slice (some ⟨g2, 0, none⟩) (acc.length + 1) c2)).heap.size := by have := hq.size; simp; omega
            clear hown3 hq aR3 aO3 hB3
            generalize w2.setCell ⟨w.heap.size + 1, 1, none⟩ (.slice (some ⟨g2, 0, none⟩) (acc.length + 1) c2) = w4 at *
            have hn9 := HN.out
            go_wp2_with fail
            go_loopw [9] (fun m wr2 => ∃ j : Nat, j ≤ acc.length ∧ m = .int .i64 j ∧ Hid (∀ y ∈ acc.drop j, ltS p0 y.1 = true) ∧ At2 wr2 w.heap.size (.string ByteArray.empty) (.slice none 0 0) ∧ At2 wr2 (w.heap.size + 1) (.string n) (.slice (some ⟨g2, 0, none⟩) (acc.length + 1) c2) ∧ OwnB 48 wr2 (w.heap.size + 1 + 1) (.slice (some ⟨g2, 0, none⟩) (acc.length + 1) c2) (bub acc (p0, p1) j) ∧ Below w.heap.size w wr2 ∧ w.heap.size + 1 + 1 ≤ wr2.heap.size) (fun m _ => (intOf m).toNat)
            case atStart => exact ⟨acc.length, Nat.le_refl _, rfl, Lib.hid (by rw [List.drop_length]; intro y hy; exact absurd hy (by simp)), aR4, aO4, by rw [bub_top]; exact hown4, hB4, hsz4⟩
            case round =>
              clear aR4 aO4 hown4 hB4 hsz4
              obtain ⟨j, hj, rfl, hd, aR5, aO5, hown5, hB5, hsz5⟩ := hrel
              have HBL : Hid ((bub acc (p0, p1) j).length = acc.length + 1) := Lib.hid (bub_len hj)
              by_cases hj0 : j = 0
              · have HT := Lib.hid (HNX.out j hj hd.out fun i h e => by omega)
                have hkN : ¬ 0 < j := by omega
                obtain ⟨o0, o1, o2, o3⟩ := id aO5
                clear hj0
                go_wp2_with fail
                go_quiet (fail)
                go_wp2_with fail
                go_roundw
                case rel => exact ⟨k + 1, _, bub acc (p0, p1) j, hlt, by go_num, Lib.hid HT.out.1, Lib.hid HT.out.2.1, HT.out.2.2, aR5.drewN _, aO5.drewN _, hown5.drewN _, below_drewN hB5 _, hsz5⟩
                case measure => simp [intOf]; omega
              · obtain ⟨i, rfl⟩ : ∃ i, j = i + 1 := ⟨j - 1, by omega⟩
                have hia : i < acc.length := by omega
                have hil : i < (bub acc (p0, p1) (i + 1)).length := by rw [HBL.out]; omega
                have hml : i + 1 < (bub acc (p0, p1) (i + 1)).length := by rw [HBL.out]; omega
                have HBP : Hid ((bub acc (p0, p1) (i + 1))[i] = (acc[i].1, acc[i].2)) := Lib.hid (bub_prev hil hia)
                have HBH : Hid ((bub acc (p0, p1) (i + 1))[i + 1] = (p0, p1)) := Lib.hid (bub_here hml hj)
                have HSW : Hid (((bub acc (p0, p1) (i + 1)).set i (p0, p1)).set (i + 1) (acc[i].1, acc[i].2) = bub acc (p0, p1) i) := Lib.hid (bub_swap hia)
                have HT : Hid (ltS acc[i].1 p0 = true → _) := Lib.hid fun h => HNX.out (i + 1) hj hd.out fun i2 h2 e => by obtain rfl : i2 = i := (by omega); exact h
                have HNO : Hid (acc[i].1 = p0 → makeE n x = (ByteArray.empty, [], 18)) := Lib.hid fun h => by rw [HA2.out, HTH.out i hia h]; rfl
                have HDN : Hid (ltS p0 acc[i].1 = true → ∀ y ∈ acc.drop i, ltS p0 y.1 = true) := Lib.hid fun h => bub_down (x := (p0, p1)) hia hd.out h
                have hkP : 0 < i + 1 := by omega
                have hk1 : ((i + 1 : Nat) : Int) - 1 = (i : Int) := by omega
                have k0 : (0 : Int) ≤ (i : Int) := by omega
                have k1 : (i : Int) < ((acc.length + 1 : Nat) : Int) := by omega
                have k2 : ((i + 1 : Nat) : Int) < ((acc.length + 1 : Nat) : Int) := by omega
                have kb : (i : Int) ≤ 8 := by omega
                have k3 : (i : Int) < (acc.length : Int) + 1 := by omega
                have k4 : ((i + 1 : Nat) : Int) < (acc.length : Int) + 1 := by omega
                have k6 : IntKind.i64.wrap (i : Int) = (i : Int) := IntWalk.i64_in _ (by omega)
                have k5 : (0 : Int) ≤ ((i + 1 : Nat) : Int) := by omega
                clear hj0 hd
                generalize acc[i].1 = q0 at *
                generalize acc[i].2 = q1 at *
                obtain ⟨d0, d1, -, -⟩ := hown5.at_ hil
                obtain ⟨d2, d3, -, -⟩ := hown5.at_ hml
                rw [HBP.out] at d0 d1
                rw [HBH.out] at d2 d3
                obtain ⟨o0, o1, o2, o3⟩ := id aO5
                generalize hkj : i + 1 = m at *
                by_cases hless : ltS q0 p0 = true
                · have HT := Lib.hid (HT.out hless)
                  unfold ltS at hless
                  go_wp2_with fail
                  go_quiet (fail)
                  go_wp2_with fail
                  go_roundw
                  case rel => exact ⟨k + 1, _, bub acc (p0, p1) m, hlt, by go_num, Lib.hid HT.out.1, Lib.hid HT.out.2.1, HT.out.2.2, aR5.drewN _, aO5.drewN _, hown5.drewN _, below_drewN hB5 _, hsz5⟩
                  case measure => simp [intOf]; omega
                · have g4 : Op.bytesLess q0.toList p0.toList = false := by simpa [ltS] using hless
                  go_wp2_with fail
                  go_quiet (fail)
                  have aR5 := aR5.drewN nq
                  have aO5 := aO5.drewN nq
                  have hown5 := hown5.drewN nq
                  have hB5 := below_drewN hB5 nq
                  replace hsz5 : w.heap.size + 1 + 1 ≤ (wr.drewN nq).heap.size := hsz5
                  clear d0 d1 d2 d3 o0 o1 o2 o3
                  generalize wr.drewN nq = w5 at *
                  obtain ⟨d0, d1, -, -⟩ := hown5.at_ hil
                  obtain ⟨d2, d3, -, -⟩ := hown5.at_ hml
                  rw [HBP.out] at d0 d1
                  rw [HBH.out] at d2 d3
                  obtain ⟨o0, o1, o2, o3⟩ := id aO5
                  by_cases heq : q0 = p0
                  · have HE := Lib.hid (HNO.out heq)
                    have he : (q0.toList == p0.toList) = true := by rw [heq]; exact beq_self_eq_true _
                    obtain ⟨r0, r1, r2, r3⟩ := id aR5
                    have HB5 := Lib.hid hB5
                    clear heq
                    go_wp2_with fail
                    go_quiet (fail)
                    go_wp2_with fail
                    exact bodyPost_ret (v := .tuple #[.agg #[.string ByteArray.empty, .slice none 0 0], .int .i64 18]) (by simp [results, Tryz.results11, go_sem, r0, r1]; rfl) rfl (MadeE.no HE.out (((below_drewN HB5.out _).setCell (p := ⟨w.heap.size, 0, none⟩) (Nat.le_refl _) _).setCell (p := ⟨w.heap.size, 1, none⟩) (Nat.le_refl _) _))
                  · have he : (q0.toList == p0.toList) = false := beq_eq_false_iff_ne.2 fun h => heq (toList_one.1 h)
                    have HDN := Lib.hid (HDN.out (by rcases ltS_or q0 p0 with h | h | h; exact absurd h heq; exact absurd h hless; exact h))
                    clear heq hless
                    go_wp2_with fail
                    go_quiet (fail)
                    go_wp2_with fail
                    have aR5 := aR5.drewN nq
                    have aO5 := aO5.drewN nq
                    have hown5 := hown5.drewN nq
                    have hB5 := below_drewN hB5 nq
                    replace hsz5 : w.heap.size + 1 + 1 ≤ (w5.drewN nq).heap.size := hsz5
                    clear d0 d1 d2 d3 o0 o1 o2 o3
                    generalize w5.drewN nq = v5 at *
                    have aR6 := aR5.drew
                    have aO6 := aO5.drew
                    have hown6 := hown5.drew
                    have hB6 := ext_drew hB5
                    have hsz6 : w.heap.size + 1 + 1 ≤ v5.drew.heap.size := hsz5
                    refine wp_region_held_drew (S := fun w' => w'.cell? ⟨w.heap.size + 1, 1, none⟩ = some (.slice (some ⟨g2, 0, none⟩) (acc.length + 1) c2)) (by kernel_rfl) ?_ (fun hHeld => ?_)
                    · exact aO6.c1
                    clear aR5 aO5 hown5 hB5 hsz5
                    generalize v5.drew = w6 at *
                    refine take_at (i := 0) (d := some 94) (v := ?_) rfl rfl (by kernel_rfl) (by kernel_rfl) (by kernel_rfl) (fun _ _ _ h => h) (Or.inl ⟨by rfl, ?hys1x1⟩) (by assumption) ?rests1x1
                    case hys1x1 => (intro w hSw; (try dsimp only at hSw); go_simp; try with_reducible rfl)
                    (try simp only [Act.put]); (try simp only [List.setIfInBounds_toArray]); (try simp only [List.set_cons_succ]); (try simp only [List.set_cons_zero])
                    refine take_at (i := 1) (d := some 95) (v := ?_) rfl rfl (by kernel_rfl) (by kernel_rfl) (by kernel_rfl) (fun _ _ _ h => h) (Or.inl ⟨by rfl, ?hys1x2⟩) (by assumption) ?rests1x2
                    case hys1x2 => (intro w hSw; (try dsimp only at hSw); go_simp; try with_reducible rfl)
                    (try simp only [Act.put]); (try simp only [List.setIfInBounds_toArray]); (try simp only [List.set_cons_succ]); (try simp only [List.set_cons_zero])
                    refine take_at (i := 2) (d := some 96) (v := ?_) rfl rfl (by kernel_rfl) (by kernel_rfl) (by kernel_rfl) (fun _ _ _ h => h) (Or.inl ⟨by rfl, ?hys1x3⟩) (by assumption) ?rests1x3
                    case hys1x3 => (intro w hSw; (try dsimp only at hSw); go_simp; try with_reducible rfl)
                    (try simp only [Act.put]); (try simp only [List.setIfInBounds_toArray]); (try simp only [List.set_cons_succ]); (try simp only [List.set_cons_zero])
                    refine take_at (i := 3) (d := some 97) (v := ?_) rfl rfl (by kernel_rfl) (by kernel_rfl) (by kernel_rfl) (fun _ _ _ h => h) (Or.inl ⟨by rfl, ?hys1x4⟩) (by assumption) ?rests1x4
                    case hys1x4 => (intro w hSw; (try dsimp only at hSw); go_simp; try with_reducible rfl)
                    (try simp only [Act.put]); (try simp only [List.setIfInBounds_toArray]); (try simp only [List.set_cons_succ]); (try simp only [List.set_cons_zero])
                    refine take_at (i := 4) (d := some 98) (v := ?_) rfl rfl (by kernel_rfl) (by kernel_rfl) (by kernel_rfl) (fun _ _ _ h => h) (Or.inl ⟨by rfl, ?hys1x5⟩) (by assumption) ?rests1x5
                    case hys1x5 => (intro w hSw; (try dsimp only at hSw); go_simp; try with_reducible rfl)
                    (try simp only [Act.put]); (try simp only [List.setIfInBounds_toArray]); (try simp only [List.set_cons_succ]); (try simp only [List.set_cons_zero])
                    refine take_at (i := 5) (d := some 99) (v := ?_) rfl rfl (by kernel_rfl) (by kernel_rfl) (by kernel_rfl) (fun _ _ _ h => h) (Or.inl ⟨by rfl, ?hys1x6⟩) (by assumption) ?rests1x6
                    case hys1x6 => (intro w hSw; (try dsimp only at hSw); go_simp; try with_reducible rfl)
                    (try simp only [Act.put]); (try simp only [List.setIfInBounds_toArray]); (try simp only [List.set_cons_succ]); (try simp only [List.set_cons_zero])
                    refine take_at (i := 6) (d := some 100) (v := ?_) rfl rfl (by kernel_rfl) (by kernel_rfl) (by kernel_rfl) (fun _ _ _ h => h) (Or.inl ⟨by rfl, ?hys1x7⟩) (by assumption) ?rests1x7
                    case hys1x7 => (intro w hSw; (try dsimp only at hSw); go_simp; try with_reducible rfl)
                    (try simp only [Act.put]); (try simp only [List.setIfInBounds_toArray]); (try simp only [List.set_cons_succ]); (try simp only [List.set_cons_zero])
                    refine take_at (i := 7) (d := some 101) (v := ?_) rfl rfl (by kernel_rfl) (by kernel_rfl) (by kernel_rfl) (fun _ _ _ h => h) (Or.inl ⟨by rfl, ?hys1x8⟩) (by assumption) ?rests1x8
                    case hys1x8 => (intro w hSw; (try dsimp only at hSw); go_simp; try with_reducible rfl)
                    (try simp only [Act.put]); (try simp only [List.setIfInBounds_toArray]); (try simp only [List.set_cons_succ]); (try simp only [List.set_cons_zero])
                    refine take_at (i := 8) (d := some 102) (v := ?_) rfl rfl (by kernel_rfl) (by kernel_rfl) (by kernel_rfl) (fun _ _ _ h => h) (Or.inl ⟨by rfl, ?hys1x9⟩) (by assumption) ?rests1x9
                    case hys1x9 => (intro w hSw; (try dsimp only at hSw); go_simp; try with_reducible rfl)
                    (try simp only [Act.put]); (try simp only [List.setIfInBounds_toArray]); (try simp only [List.set_cons_succ]); (try simp only [List.set_cons_zero])
                    refine take_at (i := 9) (d := some 103) (v := ?_) rfl rfl (by kernel_rfl) (by kernel_rfl) (by kernel_rfl) (fun _ _ _ h => h) (Or.inl ⟨by rfl, ?hys1x10⟩) (by assumption) ?rests1x10
                    case hys1x10 => (intro w hSw; (try dsimp only at hSw); go_simp; try with_reducible rfl)
                    (try simp only [Act.put]); (try simp only [List.setIfInBounds_toArray]); (try simp only [List.set_cons_succ]); (try simp only [List.set_cons_zero])
                    refine take_at (i := 10) (d := some 104) (v := ?_) rfl rfl (by kernel_rfl) (by kernel_rfl) (by kernel_rfl) (fun _ _ _ h => h) (Or.inl ⟨by rfl, ?hys1x11⟩) (by assumption) ?rests1x11
                    case hys1x11 => (intro w hSw; (try dsimp only at hSw); go_simp; try with_reducible rfl)
                    (try simp only [Act.put]); (try simp only [List.setIfInBounds_toArray]); (try simp only [List.set_cons_succ]); (try simp only [List.set_cons_zero])
                    refine take_at (i := 12) (d := some 106) (v := ?_) rfl rfl (by kernel_rfl) (by kernel_rfl) (by kernel_rfl) (fun _ _ _ h => h) (Or.inl ⟨by rfl, ?hys1x12⟩) (by assumption) ?rests1x12
                    case hys1x12 => (intro w hSw; (try dsimp only at hSw); go_simp; try with_reducible rfl)
                    (try simp only [Act.put]); (try simp only [List.setIfInBounds_toArray]); (try simp only [List.set_cons_succ]); (try simp only [List.set_cons_zero])
                    refine take_at (i := 13) (d := some 107) (v := ?_) rfl rfl (by kernel_rfl) (by kernel_rfl) (by kernel_rfl) (fun _ _ _ h => h) (Or.inl ⟨by rfl, ?hys1x13⟩) (by assumption) ?rests1x13
                    case hys1x13 => (intro w hSw; (try dsimp only at hSw); go_simp; try with_reducible rfl)
                    (try simp only [Act.put]); (try simp only [List.setIfInBounds_toArray]); (try simp only [List.set_cons_succ]); (try simp only [List.set_cons_zero])
                    refine take_at (i := 14) (d := some 108) (v := ?_) rfl rfl (by kernel_rfl) (by kernel_rfl) (by kernel_rfl) (fun _ _ _ h => h) (Or.inl ⟨by rfl, ?hys1x14⟩) (by assumption) ?rests1x14
                    case hys1x14 => (intro w hSw; (try dsimp only at hSw); go_simp; try with_reducible rfl)
                    (try simp only [Act.put]); (try simp only [List.setIfInBounds_toArray]); (try simp only [List.set_cons_succ]); (try simp only [List.set_cons_zero])
                    refine take_at (i := 15) (d := some 109) (v := ?_) rfl rfl (by kernel_rfl) (by kernel_rfl) (by kernel_rfl) (fun _ _ _ h => h) (Or.inl ⟨by rfl, ?hys1x15⟩) (by assumption) ?rests1x15
                    case hys1x15 => (intro w hSw; (try dsimp only at hSw); go_simp; try with_reducible rfl)
                    (try simp only [Act.put]); (try simp only [List.setIfInBounds_toArray]); (try simp only [List.set_cons_succ]); (try simp only [List.set_cons_zero])
                    refine take_at (i := 16) (d := some 110) (v := ?_) rfl rfl (by kernel_rfl) (by kernel_rfl) (by kernel_rfl) (fun _ _ _ h => h) (Or.inl ⟨by rfl, ?hys1x16⟩) (by assumption) ?rests1x16
                    case hys1x16 => (intro w hSw; (try dsimp only at hSw); go_simp; try with_reducible rfl)
                    (try simp only [Act.put]); (try simp only [List.setIfInBounds_toArray]); (try simp only [List.set_cons_succ]); (try simp only [List.set_cons_zero])
                    refine wpAnyH_ready (rs := [11, 17]) (by kernel_rfl) (by simp) ?_
                    refine AllReadyH.cons rfl (fun K hK => ?_) (AllReadyH.cons rfl (fun K hK => ?_) AllReadyH.nil)
                    · obtain ⟨b0, b1, -, -⟩ := hown6.at_ (j := m) hml
                      rw [HBH.out] at b0 b1
                      go_simp
                      clear b0 b1
                      refine hK.out _ _ ?_ (fun hHeld => ?_)
                      · exact aO6.c1
                      clear hK K
                      (try simp only [Act.put]); (try simp only [List.setIfInBounds_toArray]); (try simp only [List.set_cons_succ]); (try simp only [List.set_cons_zero])
                      refine wpAnyH_ready (rs := [17]) (by kernel_rfl) (by simp) ?_
                      refine AllReadyH.cons rfl (fun K hK => ?_) AllReadyH.nil
                      obtain ⟨b0, b1, -, -⟩ := hown6.at_ (j := i) hil
                      rw [HBP.out] at b0 b1
                      go_simp
                      clear b0 b1
                      refine hK.out _ _ ?_ (fun hHeld => ?_)
                      · exact aO6.c1
                      clear hK K
                      (try simp only [Act.put]); (try simp only [List.setIfInBounds_toArray]); (try simp only [List.set_cons_succ]); (try simp only [List.set_cons_zero])
                      refine take_at (i := 18) (d := some 112) (v := ?_) rfl rfl (by kernel_rfl) (by kernel_rfl) (by kernel_rfl) (fun _ _ _ h => h) (Or.inl ⟨by rfl, ?hys1x17⟩) (by assumption) ?rests1x17
                      case hys1x17 => (intro w hSw; (try dsimp only at hSw); go_simp; try with_reducible rfl)
                      (try simp only [Act.put]); (try simp only [List.setIfInBounds_toArray]); (try simp only [List.set_cons_succ]); (try simp only [List.set_cons_zero])
                      refine wpAnyH_ready (rs := [19]) (by kernel_rfl) (by simp) ?_
                      refine AllReadyH.cons rfl (fun K hK => ?_) AllReadyH.nil
                      obtain ⟨b0, b1, b2, b3⟩ := hown6.at_ (j := i) hil
                      obtain ⟨hown7, hq7⟩ := hown6.set_ (j := i) hil (p0, p1)
                      have hB7 := hB6.trans (hq7.mono (by omega))
                      have aR7 := aR6.low hq7 (by omega)
                      have aO7 := aO6.low hq7 (by omega)
                      have hsz7 := Nat.le_trans hsz6 hq7.size
                      have hml7 : m < ((bub acc (p0, p1) m).set i (p0, p1)).length := by rw [List.length_set]; exact hml
                      go_simp
                      clear b0 b1 b2 b3
                      change K _ ((w6.setCell ⟨g2, i * 2, none⟩ (.string p0)).setCell ⟨g2, i * 2 + 1, none⟩ (.string p1))
                      generalize (w6.setCell ⟨g2, i * 2, none⟩ (.string p0)).setCell ⟨g2, i * 2 + 1, none⟩ (.string p1) = w7 at *
                      refine hK.out _ _ ?_ (fun hHeld => ?_)
                      · exact aO7.c1
                      clear hK K
                      (try simp only [Act.put]); (try simp only [List.setIfInBounds_toArray]); (try simp only [List.set_cons_succ]); (try simp only [List.set_cons_zero])
                      refine take_at (i := 20) (d := some 113) (v := ?_) rfl rfl (by kernel_rfl) (by kernel_rfl) (by kernel_rfl) (fun _ _ _ h => h) (Or.inl ⟨by rfl, ?hys1x18⟩) (by assumption) ?rests1x18
                      case hys1x18 => (intro w hSw; (try dsimp only at hSw); go_simp; try with_reducible rfl)
                      (try simp only [Act.put]); (try simp only [List.setIfInBounds_toArray]); (try simp only [List.set_cons_succ]); (try simp only [List.set_cons_zero])
                      refine wpAnyH_ready (rs := [21]) (by kernel_rfl) (by simp) ?_
                      refine AllReadyH.cons rfl (fun K hK => ?_) AllReadyH.nil
                      obtain ⟨b0, b1, b2, b3⟩ := hown7.at_ (j := m) hml7
                      obtain ⟨hown8, hq8⟩ := hown7.set_ (j := m) hml7 (q0, q1)
                      have hB8 := hB7.trans (hq8.mono (by omega))
                      have aR8 := aR7.low hq8 (by omega)
                      have aO8 := aO7.low hq8 (by omega)
                      have hsz8 := Nat.le_trans hsz7 hq8.size
                      go_simp
                      clear b0 b1 b2 b3
                      change K _ ((w7.setCell ⟨g2, m * 2, none⟩ (.string q0)).setCell ⟨g2, m * 2 + 1, none⟩ (.string q1))
                      generalize (w7.setCell ⟨g2, m * 2, none⟩ (.string q0)).setCell ⟨g2, m * 2 + 1, none⟩ (.string q1) = w8 at *
                      refine hK.out _ _ ?_ (fun hHeld => ?_)
                      · exact aO8.c1
                      clear hK K
                      (try simp only [Act.put]); (try simp only [List.setIfInBounds_toArray]); (try simp only [List.set_cons_succ]); (try simp only [List.set_cons_zero])
                      refine wpAnyH_done (by kernel_rfl) ?_ _
                      go_wp2_with fail
                      go_roundw
                      case rel => exact ⟨i, by omega, by go_num, Lib.hid HDN.out, aR8, aO8, by rw [← HSW.out]; exact hown8, hB8, hsz8⟩
                      case measure => simp [intOf]; omega
                    · obtain ⟨b0, b1, -, -⟩ := hown6.at_ (j := i) hil
                      rw [HBP.out] at b0 b1
                      go_simp
                      clear b0 b1
                      refine hK.out _ _ ?_ (fun hHeld => ?_)
                      · exact aO6.c1
                      clear hK K
                      (try simp only [Act.put]); (try simp only [List.setIfInBounds_toArray]); (try simp only [List.set_cons_succ]); (try simp only [List.set_cons_zero])
                      refine wpAnyH_ready (rs := [11]) (by kernel_rfl) (by simp) ?_
                      refine AllReadyH.cons rfl (fun K hK => ?_) AllReadyH.nil
                      obtain ⟨b0, b1, -, -⟩ := hown6.at_ (j := m) hml
                      rw [HBH.out] at b0 b1
                      go_simp
                      clear b0 b1
                      refine hK.out _ _ ?_ (fun hHeld => ?_)
                      · exact aO6.c1
                      clear hK K
                      (try simp only [Act.put]); (try simp only [List.setIfInBounds_toArray]); (try simp only [List.set_cons_succ]); (try simp only [List.set_cons_zero])
                      refine take_at (i := 18) (d := some 112) (v := ?_) rfl rfl (by kernel_rfl) (by kernel_rfl) (by kernel_rfl) (fun _ _ _ h => h) (Or.inl ⟨by rfl, ?hys1x19⟩) (by assumption) ?rests1x19
                      case hys1x19 => (intro w hSw; (try dsimp only at hSw); go_simp; try with_reducible rfl)
                      (try simp only [Act.put]); (try simp only [List.setIfInBounds_toArray]); (try simp only [List.set_cons_succ]); (try simp only [List.set_cons_zero])
                      refine wpAnyH_ready (rs := [19]) (by kernel_rfl) (by simp) ?_
                      refine AllReadyH.cons rfl (fun K hK => ?_) AllReadyH.nil
                      obtain ⟨b0, b1, b2, b3⟩ := hown6.at_ (j := i) hil
                      obtain ⟨hown7, hq7⟩ := hown6.set_ (j := i) hil (p0, p1)
                      have hB7 := hB6.trans (hq7.mono (by omega))
                      have aR7 := aR6.low hq7 (by omega)
                      have aO7 := aO6.low hq7 (by omega)
                      have hsz7 := Nat.le_trans hsz6 hq7.size
                      have hml7 : m < ((bub acc (p0, p1) m).set i (p0, p1)).length := by rw [List.length_set]; exact hml
                      go_simp
                      clear b0 b1 b2 b3
                      change K _ ((w6.setCell ⟨g2, i * 2, none⟩ (.string p0)).setCell ⟨g2, i * 2 + 1, none⟩ (.string p1))
                      generalize (w6.setCell ⟨g2, i * 2, none⟩ (.string p0)).setCell ⟨g2, i * 2 + 1, none⟩ (.string p1) = w7 at *
                      refine hK.out _ _ ?_ (fun hHeld => ?_)
                      · exact aO7.c1
                      clear hK K
                      (try simp only [Act.put]); (try simp only [List.setIfInBounds_toArray]); (try simp only [List.set_cons_succ]); (try simp only [List.set_cons_zero])
                      refine take_at (i := 20) (d := some 113) (v := ?_) rfl rfl (by kernel_rfl) (by kernel_rfl) (by kernel_rfl) (fun _ _ _ h => h) (Or.inl ⟨by rfl, ?hys1x20⟩) (by assumption) ?rests1x20
                      case hys1x20 => (intro w hSw; (try dsimp only at hSw); go_simp; try with_reducible rfl)
                      (try simp only [Act.put]); (try simp only [List.setIfInBounds_toArray]); (try simp only [List.set_cons_succ]); (try simp only [List.set_cons_zero])
                      refine wpAnyH_ready (rs := [21]) (by kernel_rfl) (by simp) ?_
                      refine AllReadyH.cons rfl (fun K hK => ?_) AllReadyH.nil
                      obtain ⟨b0, b1, b2, b3⟩ := hown7.at_ (j := m) hml7
                      obtain ⟨hown8, hq8⟩ := hown7.set_ (j := m) hml7 (q0, q1)
                      have hB8 := hB7.trans (hq8.mono (by omega))
                      have aR8 := aR7.low hq8 (by omega)
                      have aO8 := aO7.low hq8 (by omega)
                      have hsz8 := Nat.le_trans hsz7 hq8.size
                      go_simp
                      clear b0 b1 b2 b3
                      change K _ ((w7.setCell ⟨g2, m * 2, none⟩ (.string q0)).setCell ⟨g2, m * 2 + 1, none⟩ (.string q1))
                      generalize (w7.setCell ⟨g2, m * 2, none⟩ (.string q0)).setCell ⟨g2, m * 2 + 1, none⟩ (.string q1) = w8 at *
                      refine hK.out _ _ ?_ (fun hHeld => ?_)
                      · exact aO8.c1
                      clear hK K
                      (try simp only [Act.put]); (try simp only [List.setIfInBounds_toArray]); (try simp only [List.set_cons_succ]); (try simp only [List.set_cons_zero])
                      refine wpAnyH_done (by kernel_rfl) ?_ _
                      go_wp2_with fail
                      go_roundw
                      case rel => exact ⟨i, by omega, by go_num, Lib.hid HDN.out, aR8, aO8, by rw [← HSW.out]; exact hown8, hB8, hsz8⟩
                      case measure => simp [intOf]; omega
          · have hB2 := ext_alloc hB1 (.cells #[.string p0, .string p1] 48)
            have aR2 := aR1.alloc (.cells #[.string p0, .string p1] 48)
            have aO2 := aO1.alloc (.cells #[.string p0, .string p1] 48)
            go_simp
            refine hK.out _ _ ?_ (fun hHeld => ?_)
            · exact HC.out _ hB2 aR2
            clear hK K
            (try simp only [Act.put]); (try simp only [List.setIfInBounds_toArray]); (try simp only [List.set_cons_succ]); (try simp only [List.set_cons_zero])
            refine wpAnyH_ready (rs := [1]) (by kernel_rfl) (by simp) ?_
            refine AllReadyH.cons rfl (fun K hK => ?_) AllReadyH.nil
            have q1 := aO2.c1
            go_simp
            clear q1
            refine hK.out _ _ ?_ (fun hHeld => ?_)
            · exact HC.out _ hB2 aR2
            clear hK K
            (try simp only [Act.put]); (try simp only [List.setIfInBounds_toArray]); (try simp only [List.set_cons_succ]); (try simp only [List.set_cons_zero])
            refine wpAnyH_ready (rs := [7]) (by kernel_rfl) (by simp) ?_
            refine AllReadyH.cons rfl (fun K hK => ?_) AllReadyH.nil
            refine step_append_cells _ rfl (.tmp 53) (.tmp 58) 30 rfl (w.heap.size + 1 + 1) 48 i0 (.agg #[.string ByteArray.empty, .string ByteArray.empty]) 2 32 Tryz.underlying30 hi hz0 hz1 hz2 rfl (by decide) _ acc.length (cellsB acc) rfl (World.ownsRow.alloc hown1 _) _ 1 1 [.string p0, .string p1] rfl rfl (lab_src _ _ _ _ _ (Lib.hid rfl)) (two_strs _ _) (by have := HL.out; have := HN.out; unfold maxLen; omega) (by have := HL.out; have := HN.out; omega) (Nat.le_trans hsz1 (by simp)) ?_
            intro v2 w2 hown2 hgrow2
            obtain ⟨hown3, hq⟩ := hown1.grew hsz1 hown2 hgrow2
            clear hown2 hgrow2
            obtain ⟨A2, c2, rfl⟩ := hown3.val1
            have hB3 := hB1.trans (hq.mono (by omega))
            have aR3 := aR1.low hq (by omega)
            have aO3 := aO1.low hq (by omega)
            refine hK.out _ _ ?_ (fun hHeld => ?_)
            · exact HC.out _ hB3 aR3
            clear hK K
            (try simp only [Act.put]); (try simp only [List.setIfInBounds_toArray]); (try simp only [List.set_cons_succ]); (try simp only [List.set_cons_zero])
            refine take_at (i := 8) (d := some 60) (v := ?_) rfl rfl (by kernel_rfl) (by kernel_rfl) (by kernel_rfl) (fun _ _ _ h => h) (Or.inl ⟨by rfl, ?hym7⟩) (by assumption) ?restm7
            case hym7 => (intro w hSw; (try dsimp only at hSw); go_simp; try with_reducible rfl)
            (try simp only [Act.put]); (try simp only [List.setIfInBounds_toArray]); (try simp only [List.set_cons_succ]); (try simp only [List.set_cons_zero])
            refine wpAnyH_ready (rs := [9]) (by kernel_rfl) (by simp) ?_
            refine AllReadyH.cons rfl (fun K hK => ?_) AllReadyH.nil
            have hB4 := hB3.setCell (p := ⟨w.heap.size + 1, 1, none⟩) (by dsimp only; omega) (.slice A2 (acc.length + 1) c2)
            have aR4 := aR3.other (b' := w.heap.size + 1) (by omega) 1 (.slice A2 (acc.length + 1) c2)
            have aO4 := aO3.set1 (.slice A2 (acc.length + 1) c2)
            have hown4 := hown3.away (p := ⟨w.heap.size + 1, 1, none⟩) (by simp) (.slice A2 (acc.length + 1) c2)
            obtain ⟨q0, q1, q2, q3⟩ := id aO3
            go_simp
            clear q0 q1 q2 q3
            refine hK.out _ _ ?_ (fun hHeld => ?_)
            · exact HC.out _ hB4 aR4
            clear hK K
            (try simp only [Act.put]); (try simp only [List.setIfInBounds_toArray]); (try simp only [List.set_cons_succ]); (try simp only [List.set_cons_zero])
            refine wpAnyH_done (by kernel_rfl) ?_ _
            have hl4 : acc.length + 1 = (acc ++ [(p0, p1)]).length := by simp
            obtain ⟨g2, c3, e2, hg2, hg3⟩ := hown4.form (by simp)
            obtain rfl : A2 = some ⟨g2, 0, none⟩ := by injection e2
            clear e2 hl4 HC
            have hsz4 : w.heap.size + 1 + 1 ≤ (w2.setCell ⟨w.heap.size + 1, 1, none⟩ (.slice (some ⟨g2, 0, none⟩) (acc.length + 1) c2)).heap.size := by have := hq.size; simp; omega
            clear hown3 hq aR3 aO3 hB3
            generalize w2.setCell ⟨w.heap.size + 1, 1, none⟩ (.slice (some ⟨g2, 0, none⟩) (acc.length + 1) c2) = w4 at *
            have hn9 := HN.out
            go_wp2_with fail
            go_loopw [9] (fun m wr2 => ∃ j : Nat, j ≤ acc.length ∧ m = .int .i64 j ∧ Hid (∀ y ∈ acc.drop j, ltS p0 y.1 = true) ∧ At2 wr2 w.heap.size (.string ByteArray.empty) (.slice none 0 0) ∧ At2 wr2 (w.heap.size + 1) (.string n) (.slice (some ⟨g2, 0, none⟩) (acc.length + 1) c2) ∧ OwnB 48 wr2 (w.heap.size + 1 + 1) (.slice (some ⟨g2, 0, none⟩) (acc.length + 1) c2) (bub acc (p0, p1) j) ∧ Below w.heap.size w wr2 ∧ w.heap.size + 1 + 1 ≤ wr2.heap.size) (fun m _ => (intOf m).toNat)
            case atStart => exact ⟨acc.length, Nat.le_refl _, rfl, Lib.hid (by rw [List.drop_length]; intro y hy; exact absurd hy (by simp)), aR4, aO4, by rw [bub_top]; exact hown4, hB4, hsz4⟩
            case round =>
              clear aR4 aO4 hown4 hB4 hsz4
              obtain ⟨j, hj, rfl, hd, aR5, aO5, hown5, hB5, hsz5⟩ := hrel
              have HBL : Hid ((bub acc (p0, p1) j).length = acc.length + 1) := Lib.hid (bub_len hj)
              by_cases hj0 : j = 0
              · have HT := Lib.hid (HNX.out j hj hd.out fun i h e => by omega)
                have hkN : ¬ 0 < j := by omega
                obtain ⟨o0, o1, o2, o3⟩ := id aO5
                clear hj0
                go_wp2_with fail
                go_quiet (fail)
                go_wp2_with fail
                go_roundw
                case rel => exact ⟨k + 1, _, bub acc (p0, p1) j, hlt, by go_num, Lib.hid HT.out.1, Lib.hid HT.out.2.1, HT.out.2.2, aR5.drewN _, aO5.drewN _, hown5.drewN _, below_drewN hB5 _, hsz5⟩
                case measure => simp [intOf]; omega
              · obtain ⟨i, rfl⟩ : ∃ i, j = i + 1 := ⟨j - 1, by omega⟩
                have hia : i < acc.length := by omega
                have hil : i < (bub acc (p0, p1) (i + 1)).length := by rw [HBL.out]; omega
                have hml : i + 1 < (bub acc (p0, p1) (i + 1)).length := by rw [HBL.out]; omega
                have HBP : Hid ((bub acc (p0, p1) (i + 1))[i] = (acc[i].1, acc[i].2)) := Lib.hid (bub_prev hil hia)
                have HBH : Hid ((bub acc (p0, p1) (i + 1))[i + 1] = (p0, p1)) := Lib.hid (bub_here hml hj)
                have HSW : Hid (((bub acc (p0, p1) (i + 1)).set i (p0, p1)).set (i + 1) (acc[i].1, acc[i].2) = bub acc (p0, p1) i) := Lib.hid (bub_swap hia)
                have HT : Hid (ltS acc[i].1 p0 = true → _) := Lib.hid fun h => HNX.out (i + 1) hj hd.out fun i2 h2 e => by obtain rfl : i2 = i := (by omega); exact h
                have HNO : Hid (acc[i].1 = p0 → makeE n x = (ByteArray.empty, [], 18)) := Lib.hid fun h => by rw [HA2.out, HTH.out i hia h]; rfl
                have HDN : Hid (ltS p0 acc[i].1 = true → ∀ y ∈ acc.drop i, ltS p0 y.1 = true) := Lib.hid fun h => bub_down (x := (p0, p1)) hia hd.out h
                have hkP : 0 < i + 1 := by omega
                have hk1 : ((i + 1 : Nat) : Int) - 1 = (i : Int) := by omega
                have k0 : (0 : Int) ≤ (i : Int) := by omega
                have k1 : (i : Int) < ((acc.length + 1 : Nat) : Int) := by omega
                have k2 : ((i + 1 : Nat) : Int) < ((acc.length + 1 : Nat) : Int) := by omega
                have kb : (i : Int) ≤ 8 := by omega
                have k3 : (i : Int) < (acc.length : Int) + 1 := by omega
                have k4 : ((i + 1 : Nat) : Int) < (acc.length : Int) + 1 := by omega
                have k6 : IntKind.i64.wrap (i : Int) = (i : Int) := IntWalk.i64_in _ (by omega)
                have k5 : (0 : Int) ≤ ((i + 1 : Nat) : Int) := by omega
                clear hj0 hd
                generalize acc[i].1 = q0 at *
                generalize acc[i].2 = q1 at *
                obtain ⟨d0, d1, -, -⟩ := hown5.at_ hil
                obtain ⟨d2, d3, -, -⟩ := hown5.at_ hml
                rw [HBP.out] at d0 d1
                rw [HBH.out] at d2 d3
                obtain ⟨o0, o1, o2, o3⟩ := id aO5
                generalize hkj : i + 1 = m at *
                by_cases hless : ltS q0 p0 = true
                · have HT := Lib.hid (HT.out hless)
                  unfold ltS at hless
                  go_wp2_with fail
                  go_quiet (fail)
                  go_wp2_with fail
                  go_roundw
                  case rel => exact ⟨k + 1, _, bub acc (p0, p1) m, hlt, by go_num, Lib.hid HT.out.1, Lib.hid HT.out.2.1, HT.out.2.2, aR5.drewN _, aO5.drewN _, hown5.drewN _, below_drewN hB5 _, hsz5⟩
                  case measure => simp [intOf]; omega
                · have g4 : Op.bytesLess q0.toList p0.toList = false := by simpa [ltS] using hless
                  go_wp2_with fail
                  go_quiet (fail)
                  have aR5 := aR5.drewN nq
                  have aO5 := aO5.drewN nq
                  have hown5 := hown5.drewN nq
                  have hB5 := below_drewN hB5 nq
                  replace hsz5 : w.heap.size + 1 + 1 ≤ (wr.drewN nq).heap.size := hsz5
                  clear d0 d1 d2 d3 o0 o1 o2 o3
                  generalize wr.drewN nq = w5 at *
                  obtain ⟨d0, d1, -, -⟩ := hown5.at_ hil
                  obtain ⟨d2, d3, -, -⟩ := hown5.at_ hml
                  rw [HBP.out] at d0 d1
                  rw [HBH.out] at d2 d3
                  obtain ⟨o0, o1, o2, o3⟩ := id aO5
                  by_cases heq : q0 = p0
                  · have HE := Lib.hid (HNO.out heq)
                    have he : (q0.toList == p0.toList) = true := by rw [heq]; exact beq_self_eq_true _
                    obtain ⟨r0, r1, r2, r3⟩ := id aR5
                    have HB5 := Lib.hid hB5
                    clear heq
                    go_wp2_with fail
                    go_quiet (fail)
                    go_wp2_with fail
                    exact bodyPost_ret (v := .tuple #[.agg #[.string ByteArray.empty, .slice none 0 0], .int .i64 18]) (by simp [results, Tryz.results11, go_sem, r0, r1]; rfl) rfl (MadeE.no HE.out (((below_drewN HB5.out _).setCell (p := ⟨w.heap.size, 0, none⟩) (Nat.le_refl _) _).setCell (p := ⟨w.heap.size, 1, none⟩) (Nat.le_refl _) _))
                  · have he : (q0.toList == p0.toList) = false := beq_eq_false_iff_ne.2 fun h => heq (toList_one.1 h)
                    have HDN := Lib.hid (HDN.out (by rcases ltS_or q0 p0 with h | h | h; exact absurd h heq; exact absurd h hless; exact h))
                    clear heq hless
                    go_wp2_with fail
                    go_quiet (fail)
                    go_wp2_with fail
                    have aR5 := aR5.drewN nq
                    have aO5 := aO5.drewN nq
                    have hown5 := hown5.drewN nq
                    have hB5 := below_drewN hB5 nq
                    replace hsz5 : w.heap.size + 1 + 1 ≤ (w5.drewN nq).heap.size := hsz5
                    clear d0 d1 d2 d3 o0 o1 o2 o3
                    generalize w5.drewN nq = v5 at *
                    have aR6 := aR5.drew
                    have aO6 := aO5.drew
                    have hown6 := hown5.drew
                    have hB6 := ext_drew hB5
                    have hsz6 : w.heap.size + 1 + 1 ≤ v5.drew.heap.size := hsz5
                    refine wp_region_held_drew (S := fun w' => w'.cell? ⟨w.heap.size + 1, 1, none⟩ = some (.slice (some ⟨g2, 0, none⟩) (acc.length + 1) c2)) (by kernel_rfl) ?_ (fun hHeld => ?_)
                    · exact aO6.c1
                    clear aR5 aO5 hown5 hB5 hsz5
                    generalize v5.drew = w6 at *
                    refine take_at (i := 0) (d := some 94) (v := ?_) rfl rfl (by kernel_rfl) (by kernel_rfl) (by kernel_rfl) (fun _ _ _ h => h) (Or.inl ⟨by rfl, ?hys2x1⟩) (by assumption) ?rests2x1
                    case hys2x1 => (intro w hSw; (try dsimp only at hSw); go_simp; try with_reducible rfl)
                    (try simp only [Act.put]); (try simp only [List.setIfInBounds_toArray]); (try simp only [List.set_cons_succ]); (try simp only [List.set_cons_zero])
                    refine take_at (i := 1) (d := some 95) (v := ?_) rfl rfl (by kernel_rfl) (by kernel_rfl) (by kernel_rfl) (fun _ _ _ h => h) (Or.inl ⟨by rfl, ?hys2x2⟩) (by assumption) ?rests2x2
                    case hys2x2 => (intro w hSw; (try dsimp only at hSw); go_simp; try with_reducible rfl)
                    (try simp only [Act.put]); (try simp only [List.setIfInBounds_toArray]); (try simp only [List.set_cons_succ]); (try simp only [List.set_cons_zero])
                    refine take_at (i := 2) (d := some 96) (v := ?_) rfl rfl (by kernel_rfl) (by kernel_rfl) (by kernel_rfl) (fun _ _ _ h => h) (Or.inl ⟨by rfl, ?hys2x3⟩) (by assumption) ?rests2x3
                    case hys2x3 => (intro w hSw; (try dsimp only at hSw); go_simp; try with_reducible rfl)
                    (try simp only [Act.put]); (try simp only [List.setIfInBounds_toArray]); (try simp only [List.set_cons_succ]); (try simp only [List.set_cons_zero])
                    refine take_at (i := 3) (d := some 97) (v := ?_) rfl rfl (by kernel_rfl) (by kernel_rfl) (by kernel_rfl) (fun _ _ _ h => h) (Or.inl ⟨by rfl, ?hys2x4⟩) (by assumption) ?rests2x4
                    case hys2x4 => (intro w hSw; (try dsimp only at hSw); go_simp; try with_reducible rfl)
                    (try simp only [Act.put]); (try simp only [List.setIfInBounds_toArray]); (try simp only [List.set_cons_succ]); (try simp only [List.set_cons_zero])
                    refine take_at (i := 4) (d := some 98) (v := ?_) rfl rfl (by kernel_rfl) (by kernel_rfl) (by kernel_rfl) (fun _ _ _ h => h) (Or.inl ⟨by rfl, ?hys2x5⟩) (by assumption) ?rests2x5
                    case hys2x5 => (intro w hSw; (try dsimp only at hSw); go_simp; try with_reducible rfl)
                    (try simp only [Act.put]); (try simp only [List.setIfInBounds_toArray]); (try simp only [List.set_cons_succ]); (try simp only [List.set_cons_zero])
                    refine take_at (i := 5) (d := some 99) (v := ?_) rfl rfl (by kernel_rfl) (by kernel_rfl) (by kernel_rfl) (fun _ _ _ h => h) (Or.inl ⟨by rfl, ?hys2x6⟩) (by assumption) ?rests2x6
                    case hys2x6 => (intro w hSw; (try dsimp only at hSw); go_simp; try with_reducible rfl)
                    (try simp only [Act.put]); (try simp only [List.setIfInBounds_toArray]); (try simp only [List.set_cons_succ]); (try simp only [List.set_cons_zero])
                    refine take_at (i := 6) (d := some 100) (v := ?_) rfl rfl (by kernel_rfl) (by kernel_rfl) (by kernel_rfl) (fun _ _ _ h => h) (Or.inl ⟨by rfl, ?hys2x7⟩) (by assumption) ?rests2x7
                    case hys2x7 => (intro w hSw; (try dsimp only at hSw); go_simp; try with_reducible rfl)
                    (try simp only [Act.put]); (try simp only [List.setIfInBounds_toArray]); (try simp only [List.set_cons_succ]); (try simp only [List.set_cons_zero])
                    refine take_at (i := 7) (d := some 101) (v := ?_) rfl rfl (by kernel_rfl) (by kernel_rfl) (by kernel_rfl) (fun _ _ _ h => h) (Or.inl ⟨by rfl, ?hys2x8⟩) (by assumption) ?rests2x8
                    case hys2x8 => (intro w hSw; (try dsimp only at hSw); go_simp; try with_reducible rfl)
                    (try simp only [Act.put]); (try simp only [List.setIfInBounds_toArray]); (try simp only [List.set_cons_succ]); (try simp only [List.set_cons_zero])
                    refine take_at (i := 8) (d := some 102) (v := ?_) rfl rfl (by kernel_rfl) (by kernel_rfl) (by kernel_rfl) (fun _ _ _ h => h) (Or.inl ⟨by rfl, ?hys2x9⟩) (by assumption) ?rests2x9
                    case hys2x9 => (intro w hSw; (try dsimp only at hSw); go_simp; try with_reducible rfl)
                    (try simp only [Act.put]); (try simp only [List.setIfInBounds_toArray]); (try simp only [List.set_cons_succ]); (try simp only [List.set_cons_zero])
                    refine take_at (i := 9) (d := some 103) (v := ?_) rfl rfl (by kernel_rfl) (by kernel_rfl) (by kernel_rfl) (fun _ _ _ h => h) (Or.inl ⟨by rfl, ?hys2x10⟩) (by assumption) ?rests2x10
                    case hys2x10 => (intro w hSw; (try dsimp only at hSw); go_simp; try with_reducible rfl)
                    (try simp only [Act.put]); (try simp only [List.setIfInBounds_toArray]); (try simp only [List.set_cons_succ]); (try simp only [List.set_cons_zero])
                    refine take_at (i := 10) (d := some 104) (v := ?_) rfl rfl (by kernel_rfl) (by kernel_rfl) (by kernel_rfl) (fun _ _ _ h => h) (Or.inl ⟨by rfl, ?hys2x11⟩) (by assumption) ?rests2x11
                    case hys2x11 => (intro w hSw; (try dsimp only at hSw); go_simp; try with_reducible rfl)
                    (try simp only [Act.put]); (try simp only [List.setIfInBounds_toArray]); (try simp only [List.set_cons_succ]); (try simp only [List.set_cons_zero])
                    refine take_at (i := 12) (d := some 106) (v := ?_) rfl rfl (by kernel_rfl) (by kernel_rfl) (by kernel_rfl) (fun _ _ _ h => h) (Or.inl ⟨by rfl, ?hys2x12⟩) (by assumption) ?rests2x12
                    case hys2x12 => (intro w hSw; (try dsimp only at hSw); go_simp; try with_reducible rfl)
                    (try simp only [Act.put]); (try simp only [List.setIfInBounds_toArray]); (try simp only [List.set_cons_succ]); (try simp only [List.set_cons_zero])
                    refine take_at (i := 13) (d := some 107) (v := ?_) rfl rfl (by kernel_rfl) (by kernel_rfl) (by kernel_rfl) (fun _ _ _ h => h) (Or.inl ⟨by rfl, ?hys2x13⟩) (by assumption) ?rests2x13
                    case hys2x13 => (intro w hSw; (try dsimp only at hSw); go_simp; try with_reducible rfl)
                    (try simp only [Act.put]); (try simp only [List.setIfInBounds_toArray]); (try simp only [List.set_cons_succ]); (try simp only [List.set_cons_zero])
                    refine take_at (i := 14) (d := some 108) (v := ?_) rfl rfl (by kernel_rfl) (by kernel_rfl) (by kernel_rfl) (fun _ _ _ h => h) (Or.inl ⟨by rfl, ?hys2x14⟩) (by assumption) ?rests2x14
                    case hys2x14 => (intro w hSw; (try dsimp only at hSw); go_simp; try with_reducible rfl)
                    (try simp only [Act.put]); (try simp only [List.setIfInBounds_toArray]); (try simp only [List.set_cons_succ]); (try simp only [List.set_cons_zero])
                    refine take_at (i := 15) (d := some 109) (v := ?_) rfl rfl (by kernel_rfl) (by kernel_rfl) (by kernel_rfl) (fun _ _ _ h => h) (Or.inl ⟨by rfl, ?hys2x15⟩) (by assumption) ?rests2x15
                    case hys2x15 => (intro w hSw; (try dsimp only at hSw); go_simp; try with_reducible rfl)
                    (try simp only [Act.put]); (try simp only [List.setIfInBounds_toArray]); (try simp only [List.set_cons_succ]); (try simp only [List.set_cons_zero])
                    refine take_at (i := 16) (d := some 110) (v := ?_) rfl rfl (by kernel_rfl) (by kernel_rfl) (by kernel_rfl) (fun _ _ _ h => h) (Or.inl ⟨by rfl, ?hys2x16⟩) (by assumption) ?rests2x16
                    case hys2x16 => (intro w hSw; (try dsimp only at hSw); go_simp; try with_reducible rfl)
                    (try simp only [Act.put]); (try simp only [List.setIfInBounds_toArray]); (try simp only [List.set_cons_succ]); (try simp only [List.set_cons_zero])
                    refine wpAnyH_ready (rs := [11, 17]) (by kernel_rfl) (by simp) ?_
                    refine AllReadyH.cons rfl (fun K hK => ?_) (AllReadyH.cons rfl (fun K hK => ?_) AllReadyH.nil)
                    · obtain ⟨b0, b1, -, -⟩ := hown6.at_ (j := m) hml
                      rw [HBH.out] at b0 b1
                      go_simp
                      clear b0 b1
                      refine hK.out _ _ ?_ (fun hHeld => ?_)
                      · exact aO6.c1
                      clear hK K
                      (try simp only [Act.put]); (try simp only [List.setIfInBounds_toArray]); (try simp only [List.set_cons_succ]); (try simp only [List.set_cons_zero])
                      refine wpAnyH_ready (rs := [17]) (by kernel_rfl) (by simp) ?_
                      refine AllReadyH.cons rfl (fun K hK => ?_) AllReadyH.nil
                      obtain ⟨b0, b1, -, -⟩ := hown6.at_ (j := i) hil
                      rw [HBP.out] at b0 b1
                      go_simp
                      clear b0 b1
                      refine hK.out _ _ ?_ (fun hHeld => ?_)
                      · exact aO6.c1
                      clear hK K
                      (try simp only [Act.put]); (try simp only [List.setIfInBounds_toArray]); (try simp only [List.set_cons_succ]); (try simp only [List.set_cons_zero])
                      refine take_at (i := 18) (d := some 112) (v := ?_) rfl rfl (by kernel_rfl) (by kernel_rfl) (by kernel_rfl) (fun _ _ _ h => h) (Or.inl ⟨by rfl, ?hys2x17⟩) (by assumption) ?rests2x17
                      case hys2x17 => (intro w hSw; (try dsimp only at hSw); go_simp; try with_reducible rfl)
                      (try simp only [Act.put]); (try simp only [List.setIfInBounds_toArray]); (try simp only [List.set_cons_succ]); (try simp only [List.set_cons_zero])
                      refine wpAnyH_ready (rs := [19]) (by kernel_rfl) (by simp) ?_
                      refine AllReadyH.cons rfl (fun K hK => ?_) AllReadyH.nil
                      obtain ⟨b0, b1, b2, b3⟩ := hown6.at_ (j := i) hil
                      obtain ⟨hown7, hq7⟩ := hown6.set_ (j := i) hil (p0, p1)
                      have hB7 := hB6.trans (hq7.mono (by omega))
                      have aR7 := aR6.low hq7 (by omega)
                      have aO7 := aO6.low hq7 (by omega)
                      have hsz7 := Nat.le_trans hsz6 hq7.size
                      have hml7 : m < ((bub acc (p0, p1) m).set i (p0, p1)).length := by rw [List.length_set]; exact hml
                      go_simp
                      clear b0 b1 b2 b3
                      change K _ ((w6.setCell ⟨g2, i * 2, none⟩ (.string p0)).setCell ⟨g2, i * 2 + 1, none⟩ (.string p1))
                      generalize (w6.setCell ⟨g2, i * 2, none⟩ (.string p0)).setCell ⟨g2, i * 2 + 1, none⟩ (.string p1) = w7 at *
                      refine hK.out _ _ ?_ (fun hHeld => ?_)
                      · exact aO7.c1
                      clear hK K
                      (try simp only [Act.put]); (try simp only [List.setIfInBounds_toArray]); (try simp only [List.set_cons_succ]); (try simp only [List.set_cons_zero])
                      refine take_at (i := 20) (d := some 113) (v := ?_) rfl rfl (by kernel_rfl) (by kernel_rfl) (by kernel_rfl) (fun _ _ _ h => h) (Or.inl ⟨by rfl, ?hys2x18⟩) (by assumption) ?rests2x18
                      case hys2x18 => (intro w hSw; (try dsimp only at hSw); go_simp; try with_reducible rfl)
                      (try simp only [Act.put]); (try simp only [List.setIfInBounds_toArray]); (try simp only [List.set_cons_succ]); (try simp only [List.set_cons_zero])
                      refine wpAnyH_ready (rs := [21]) (by kernel_rfl) (by simp) ?_
                      refine AllReadyH.cons rfl (fun K hK => ?_) AllReadyH.nil
                      obtain ⟨b0, b1, b2, b3⟩ := hown7.at_ (j := m) hml7
                      obtain ⟨hown8, hq8⟩ := hown7.set_ (j := m) hml7 (q0, q1)
                      have hB8 := hB7.trans (hq8.mono (by omega))
                      have aR8 := aR7.low hq8 (by omega)
                      have aO8 := aO7.low hq8 (by omega)
                      have hsz8 := Nat.le_trans hsz7 hq8.size
                      go_simp
                      clear b0 b1 b2 b3
                      change K _ ((w7.setCell ⟨g2, m * 2, none⟩ (.string q0)).setCell ⟨g2, m * 2 + 1, none⟩ (.string q1))
                      generalize (w7.setCell ⟨g2, m * 2, none⟩ (.string q0)).setCell ⟨g2, m * 2 + 1, none⟩ (.string q1) = w8 at *
                      refine hK.out _ _ ?_ (fun hHeld => ?_)
                      · exact aO8.c1
                      clear hK K
                      (try simp only [Act.put]); (try simp only [List.setIfInBounds_toArray]); (try simp only [List.set_cons_succ]); (try simp only [List.set_cons_zero])
                      refine wpAnyH_done (by kernel_rfl) ?_ _
                      go_wp2_with fail
                      go_roundw
                      case rel => exact ⟨i, by omega, by go_num, Lib.hid HDN.out, aR8, aO8, by rw [← HSW.out]; exact hown8, hB8, hsz8⟩
                      case measure => simp [intOf]; omega
                    · obtain ⟨b0, b1, -, -⟩ := hown6.at_ (j := i) hil
                      rw [HBP.out] at b0 b1
                      go_simp
                      clear b0 b1
                      refine hK.out _ _ ?_ (fun hHeld => ?_)
                      · exact aO6.c1
                      clear hK K
                      (try simp only [Act.put]); (try simp only [List.setIfInBounds_toArray]); (try simp only [List.set_cons_succ]); (try simp only [List.set_cons_zero])
                      refine wpAnyH_ready (rs := [11]) (by kernel_rfl) (by simp) ?_
                      refine AllReadyH.cons rfl (fun K hK => ?_) AllReadyH.nil
                      obtain ⟨b0, b1, -, -⟩ := hown6.at_ (j := m) hml
                      rw [HBH.out] at b0 b1
                      go_simp
                      clear b0 b1
                      refine hK.out _ _ ?_ (fun hHeld => ?_)
                      · exact aO6.c1
                      clear hK K
                      (try simp only [Act.put]); (try simp only [List.setIfInBounds_toArray]); (try simp only [List.set_cons_succ]); (try simp only [List.set_cons_zero])
                      refine take_at (i := 18) (d := some 112) (v := ?_) rfl rfl (by kernel_rfl) (by kernel_rfl) (by kernel_rfl) (fun _ _ _ h => h) (Or.inl ⟨by rfl, ?hys2x19⟩) (by assumption) ?rests2x19
                      case hys2x19 => (intro w hSw; (try dsimp only at hSw); go_simp; try with_reducible rfl)
                      (try simp only [Act.put]); (try simp only [List.setIfInBounds_toArray]); (try simp only [List.set_cons_succ]); (try simp only [List.set_cons_zero])
                      refine wpAnyH_ready (rs := [19]) (by kernel_rfl) (by simp) ?_
                      refine AllReadyH.cons rfl (fun K hK => ?_) AllReadyH.nil
                      obtain ⟨b0, b1, b2, b3⟩ := hown6.at_ (j := i) hil
                      obtain ⟨hown7, hq7⟩ := hown6.set_ (j := i) hil (p0, p1)
                      have hB7 := hB6.trans (hq7.mono (by omega))
                      have aR7 := aR6.low hq7 (by omega)
                      have aO7 := aO6.low hq7 (by omega)
                      have hsz7 := Nat.le_trans hsz6 hq7.size
                      have hml7 : m < ((bub acc (p0, p1) m).set i (p0, p1)).length := by rw [List.length_set]; exact hml
                      go_simp
                      clear b0 b1 b2 b3
                      change K _ ((w6.setCell ⟨g2, i * 2, none⟩ (.string p0)).setCell ⟨g2, i * 2 + 1, none⟩ (.string p1))
                      generalize (w6.setCell ⟨g2, i * 2, none⟩ (.string p0)).setCell ⟨g2, i * 2 + 1, none⟩ (.string p1) = w7 at *
                      refine hK.out _ _ ?_ (fun hHeld => ?_)
                      · exact aO7.c1
                      clear hK K
                      (try simp only [Act.put]); (try simp only [List.setIfInBounds_toArray]); (try simp only [List.set_cons_succ]); (try simp only [List.set_cons_zero])
                      refine take_at (i := 20) (d := some 113) (v := ?_) rfl rfl (by kernel_rfl) (by kernel_rfl) (by kernel_rfl) (fun _ _ _ h => h) (Or.inl ⟨by rfl, ?hys2x20⟩) (by assumption) ?rests2x20
                      case hys2x20 => (intro w hSw; (try dsimp only at hSw); go_simp; try with_reducible rfl)
                      (try simp only [Act.put]); (try simp only [List.setIfInBounds_toArray]); (try simp only [List.set_cons_succ]); (try simp only [List.set_cons_zero])
                      refine wpAnyH_ready (rs := [21]) (by kernel_rfl) (by simp) ?_
                      refine AllReadyH.cons rfl (fun K hK => ?_) AllReadyH.nil
                      obtain ⟨b0, b1, b2, b3⟩ := hown7.at_ (j := m) hml7
                      obtain ⟨hown8, hq8⟩ := hown7.set_ (j := m) hml7 (q0, q1)
                      have hB8 := hB7.trans (hq8.mono (by omega))
                      have aR8 := aR7.low hq8 (by omega)
                      have aO8 := aO7.low hq8 (by omega)
                      have hsz8 := Nat.le_trans hsz7 hq8.size
                      go_simp
                      clear b0 b1 b2 b3
                      change K _ ((w7.setCell ⟨g2, m * 2, none⟩ (.string q0)).setCell ⟨g2, m * 2 + 1, none⟩ (.string q1))
                      generalize (w7.setCell ⟨g2, m * 2, none⟩ (.string q0)).setCell ⟨g2, m * 2 + 1, none⟩ (.string q1) = w8 at *
                      refine hK.out _ _ ?_ (fun hHeld => ?_)
                      · exact aO8.c1
                      clear hK K
                      (try simp only [Act.put]); (try simp only [List.setIfInBounds_toArray]); (try simp only [List.set_cons_succ]); (try simp only [List.set_cons_zero])
                      refine wpAnyH_done (by kernel_rfl) ?_ _
                      go_wp2_with fail
                      go_roundw
                      case rel => exact ⟨i, by omega, by go_num, Lib.hid HDN.out, aR8, aO8, by rw [← HSW.out]; exact hown8, hB8, hsz8⟩
                      case measure => simp [intOf]; omega
        · obtain rfl : k = x.length := by omega
          obtain ⟨Ao, co, rfl⟩ := hown.val
          have hE : Hid (makeE n x = (n, acc, 0)) := Lib.hid (by rw [HA2.out, hm.out, List.drop_length]; rfl)
          obtain ⟨o0, o1, o2, o3⟩ := id aO
          obtain ⟨r0, r1, r2, r3⟩ := id aR
          have HF := Lib.hid ((aR.set0 (.string n)).set1 (.slice Ao acc.length co))
          have HG := Lib.hid (((hown.away (p := ⟨w.heap.size, 0, none⟩) (by dsimp only; omega) (.string n)).away (p := ⟨w.heap.size, 1, none⟩) (by dsimp only; omega) (.slice Ao acc.length co)).less (show w.heap.size ≤ w.heap.size + 1 + 1 by omega))
          have HB2 := Lib.hid ((hB.setCell (p := ⟨w.heap.size, 0, none⟩) (Nat.le_refl _) (.string n)).setCell (p := ⟨w.heap.size, 1, none⟩) (Nat.le_refl _) (.slice Ao acc.length co))
          have HLK := Lib.hid hl
          have hn8 : acc.length ≤ 8 := by omega
          clear hm hs hl
          go_wp2_with fail
          have z0 := HF.out.c0
          have z1 := HF.out.c1
          exact bodyPost_ret (v := .tuple #[.agg #[.string n, .slice Ao acc.length co], .int .i64 0]) (by simp [results, Tryz.results11, go_sem, z0, z1]) rfl (by rw [hE.out]; exact ⟨_, rfl, HG.out, HB2.out⟩)
end Go.Proofs.YteiilmnehdbdiaaGreatDoor
