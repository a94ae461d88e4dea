/- Package drift: ordered, walked. -/
import Derived.Test.YtljgfallhnlebaaDrfB
import Derived.Test.YtljgfallhnlebaaDrfE
import Derived.Test.YtljgfallhnlebaaTake
namespace Go.Proofs.Ytljgfallhnlebaa
open Go.RowKit

/-- The first k points are times, each may follow the one before it. -/
def OrdTo (gs : List (Int × Int)) (k : Nat) : Prop := ∀ i, i < k → timeB (gs.getD i (0, 0)) = true ∧ (0 < i → followB (gs.getD (i - 1) (0, 0)) (gs.getD i (0, 0)) = true)
theorem OrdTo.none (gs : List (Int × Int)) : OrdTo gs 0 := fun _ h => absurd h (by omega)
theorem OrdTo.all {gs : List (Int × Int)} (h : OrdTo gs gs.length) : orderedB gs = true := by
  refine ordered_iff.2 fun i hi => ⟨(h i hi).1, fun h1 => ?_⟩
  have := (h (i + 1) h1).2 (by omega)
  rwa [show i + 1 - 1 = i by omega] at this
theorem OrdTo.next {gs : List (Int × Int)} {k : Nat} (h : OrdTo gs k) (h1 : timeB (gs.getD k (0, 0)) = true) (h2 : 0 < k → followB (gs.getD (k - 1) (0, 0)) (gs.getD k (0, 0)) = true) : OrdTo gs (k + 1) := by
  intro i hi
  by_cases e : i = k
  · subst e; exact ⟨h1, h2⟩
  · exact h i (by omega)
theorem ord_time {gs : List (Int × Int)} {k : Nat} (hk : k < gs.length) (h : timeB (gs.getD k (0, 0)) = false) : orderedB gs = false := by
  cases hb : orderedB gs with
  | false => rfl
  | true => rw [(ordered_iff.1 hb k hk).1] at h; cases h
theorem ord_follow {gs : List (Int × Int)} {k : Nat} (hk : k < gs.length) (h0 : 0 < k) (h : followB (gs.getD (k - 1) (0, 0)) (gs.getD k (0, 0)) = false) : orderedB gs = false := by
  cases hb : orderedB gs with
  | false => rfl
  | true =>
    have := (ordered_iff.1 hb (k - 1) (by omega)).2 (by omega)
    rw [show k - 1 + 1 = k by omega] at this
    rw [this] at h; cases h
/-- What ordered answers. -/
def OrdE (gs : List (Int × Int)) (w : World) (e : Ending) (w' : World) : Prop :=
  Below w.heap.size w w' ∧ ∃ hs, SortedG hs ∧ (∀ p, p ∈ gs ↔ p ∈ hs) ∧ hs.length = gs.length ∧ ((orderedB hs = false ∧ e = .returned (.tuple #[.slice none 0 0, .bool false])) ∨ (orderedB hs = true ∧ ∃ u, e = .returned (.tuple #[u, .bool true]) ∧ Gaps w' w'.heap.size u hs))
theorem OrdE.no {gs hs : List (Int × Int)} {w w' : World} (hB : Below w.heap.size w w') (h : SortedG hs ∧ (∀ p, p ∈ gs ↔ p ∈ hs) ∧ hs.length = gs.length) (ho : orderedB hs = false) : OrdE gs w (.returned (.tuple #[.slice none 0 0, .bool false])) w' :=
  ⟨hB, hs, h.1, h.2.1, h.2.2, Or.inl ⟨ho, rfl⟩⟩
theorem OrdE.yes {gs hs : List (Int × Int)} {w w' : World} {u : Value} (hB : Below w.heap.size w w') (h : SortedG hs ∧ (∀ p, p ∈ gs ↔ p ∈ hs) ∧ hs.length = gs.length) (ho : orderedB hs = true) (hG : Gaps w' w'.heap.size u hs) : OrdE gs w (.returned (.tuple #[u, .bool true])) w' :=
  ⟨hB, hs, h.1, h.2.1, h.2.2, Or.inr ⟨ho, u, rfl, hG⟩⟩

set_option maxRecDepth 100000 in
set_option maxHeartbeats 4000000 in
theorem dOrdered_any (v : Value) (gs : List (Int × Int)) (w : World) (hv : Gaps w w.heap.size v gs) (hn : gs.length ≤ 1000000) :
    Calls Try.prog 25 #[v] w (OrdE gs w) := by
  have CL := Lib.hid (clonePts_any v gs w hv hn)
  have CS := Lib.hid fun (u : Value) (W : World) (h : OwnG 36 W w.heap.size u gs) (hB : w.heap.size ≤ W.heap.size) => sortPts_any u gs w.heap.size W h hn hB
  have HN := Lib.hid hn
  have CT := Lib.hid dTime_any
  clear hv hn
  go_enter Try.func25, Try.ntmps25
  go_wp2_with fail
  refine (CL.out).mono ?_; rintro e w1 ⟨u, rfl, hO, hB⟩
  have HB1 := Lib.hid hB
  have CU := Lib.hid (CS.out u w1 hO hB.size)
  clear CS CL hO hB
  go_wp2_with fail
  refine (CU.out).mono ?_; rintro e w2 ⟨rfl, hs, h1, h2, h3, hG, hB⟩
  have HH := Lib.hid (And.intro h1 (And.intro h2 h3))
  have HBW : Hid (Below w.heap.size w w2) := Lib.hid (HB1.out.trans hB)
  have HN2 : Hid (hs.length ≤ 1000000) := Lib.hid (by rw [h3]; exact HN.out)
  clear CU HB1 HN h1 h2 h3 hB
  have HG := Lib.hid hG
  obtain ⟨A, c, rfl, hc, hr⟩ := hG
  have HR := Lib.hid hr
  clear hr
  go_wp2_with fail
  go_loopw [13] (fun i wr => ∃ k : Nat, k ≤ hs.length ∧ i = .int .i64 k ∧ Below w2.heap.size w2 wr ∧ Hid (OrdTo hs k)) (fun i _ => hs.length - (intOf i).toNat)
  case atStart => exact ⟨0, Nat.zero_le _, rfl, Below.refl _ _, Lib.hid (OrdTo.none _)⟩
  case round =>
    obtain ⟨k, hk, rfl, hB, HO⟩ := hrel
    have hN2 := HN2.out
    by_cases hlt : k < hs.length
    · obtain ⟨ad, rfl, hb, hcell⟩ := HR.out (by omega)
      rename_i wr _
      have c1 : _ = _ := (hB.cell (by rw [block_of_add]; exact hb)).trans (hcell k hlt).1
      have c2 : _ = _ := (hB.cell (by rw [block_of_add]; exact hb)).trans (hcell k hlt).2
      rw [add_succ] at c2
      have EK := Lib.hid (getD_get hlt)
      have EP : Hid (hs[k] = (hs[k].1, hs[k].2)) := Lib.hid rfl
      have HC := Lib.hid hcell
      have HBK := Lib.hid hb
      clear hcell hb
      generalize hs[k].1 = a at *
      generalize hs[k].2 = b at *
      replace EK : Hid (hs.getD k (0, 0) = (a, b)) := Lib.hid (EK.out.trans EP.out)
      clear EP
      have TT : Hid (timeB (hs.getD k (0, 0)) = (isTimeB a && isTimeB b)) := Lib.hid (by rw [EK.out]; exact timeB_two (a, b))
      have C1 := Lib.hid (CT.out a)
      have C2 := Lib.hid (CT.out b)
      have hP := At2.new wr (.int .i64 a) (.int .i64 b) 36
      replace hB := ext_alloc hB (.cells #[.int .i64 a, .int .i64 b] 36)
      go_upto_region 6 with fail
      clear c1 c2
      generalize wr.alloc (.cells #[.int .i64 a, .int .i64 b] 36) = W1 at *
      generalize wr.heap.size = g6 at *
      obtain ⟨p0, p1, -, -⟩ := id hP
      have HBo := Lib.hid (ext_step HBW.out hB)
      cases ta : isTimeB a with
      | false =>
        have Z : Hid (orderedB hs = false) := Lib.hid (ord_time hlt (by rw [TT.out, ta]; rfl))
        rw [ta] at C1
        replace ta := Lib.hid ta
        go_wp2_with fail
        refine (C1.out _).mono ?_; rintro e w3 ⟨rfl, rfl⟩
        go_wp2_with fail
        go_ret2
        exact OrdE.no HBo.out HH.out Z.out
      | true =>
        cases tb : isTimeB b with
        | false =>
          have Z : Hid (orderedB hs = false) := Lib.hid (ord_time hlt (by rw [TT.out, ta, tb]; rfl))
          rw [ta] at C1
          rw [tb] at C2
          replace ta := Lib.hid ta
          replace tb := Lib.hid tb
          go_wp2_with fail
          refine (C1.out _).mono ?_; rintro e w3 ⟨rfl, rfl⟩
          go_wp2_with fail
          refine (C2.out _).mono ?_; rintro e w4 ⟨rfl, rfl⟩
          go_wp2_with fail
          go_ret2
          exact OrdE.no HBo.out HH.out Z.out
        | true =>
          have HT : Hid (timeB (hs.getD k (0, 0)) = true) := Lib.hid (by rw [TT.out, ta, tb]; rfl)
          rw [ta] at C1
          rw [tb] at C2
          replace ta := Lib.hid ta
          replace tb := Lib.hid tb
          go_wp2_with fail
          refine (C1.out _).mono ?_; rintro e w3 ⟨rfl, rfl⟩
          go_wp2_with fail
          refine (C2.out _).mono ?_; rintro e w4 ⟨rfl, rfl⟩
          by_cases hk0 : k = 0
          · have Z : Hid (OrdTo hs (k + 1)) := Lib.hid (HO.out.next HT.out fun h => absurd h (by omega))
            subst hk0
            go_upto_region 8 with fail
            refine wp_region_held_drew (S := fun w' => True) (by kernel_rfl) ?_ (fun hHeld => ?_)
            · exact trivial
            refine take_at (i := 0) (d := some 28) (v := ?_) rfl rfl (by kernel_rfl) (by kernel_rfl) (by kernel_rfl) (fun _ _ _ h => h) (Or.inl ⟨by rfl, ?hyz0⟩) (by assumption) ?restz0
            case hyz0 => (intro w hSw; (try dsimp only at hSw); go_simp; try with_reducible rfl)
            simp only [Act.put, List.setIfInBounds_toArray, List.set_cons_zero, List.set_cons_succ]
            refine take_at (i := 1) (d := some 29) (v := ?_) rfl rfl (by kernel_rfl) (by kernel_rfl) (by kernel_rfl) (fun _ _ _ h => h) (Or.inl ⟨by rfl, ?hyz1⟩) (by assumption) ?restz1
            case hyz1 => (intro w hSw; (try dsimp only at hSw); go_simp; try with_reducible rfl)
            simp only [Act.put, List.setIfInBounds_toArray, List.set_cons_zero, List.set_cons_succ]
            refine take_at (i := 2) (d := some 30) (v := ?_) rfl rfl (by kernel_rfl) (by kernel_rfl) (by kernel_rfl) (fun _ _ _ h => h) (Or.inl ⟨by rfl, ?hyz2⟩) (by assumption) ?restz2
            case hyz2 => (intro w hSw; (try dsimp only at hSw); go_simp; try with_reducible rfl)
            simp only [Act.put, List.setIfInBounds_toArray, List.set_cons_zero, List.set_cons_succ]
            refine take_at (i := 3) (d := some 31) (v := undef) rfl rfl (by kernel_rfl) (by kernel_rfl) (by kernel_rfl) (fun _ _ _ h => h) (Or.inr ⟨by rfl, rfl⟩) (by assumption) ?_
            simp only [Act.put, List.setIfInBounds_toArray, List.set_cons_zero, List.set_cons_succ]
            refine take_at (i := 4) (d := some 32) (v := undef) rfl rfl (by kernel_rfl) (by kernel_rfl) (by kernel_rfl) (fun _ _ _ h => h) (Or.inr ⟨by rfl, rfl⟩) (by assumption) ?_
            simp only [Act.put, List.setIfInBounds_toArray, List.set_cons_zero, List.set_cons_succ]
            refine take_at (i := 5) (d := some 33) (v := undef) rfl rfl (by kernel_rfl) (by kernel_rfl) (by kernel_rfl) (fun _ _ _ h => h) (Or.inr ⟨by rfl, rfl⟩) (by assumption) ?_
            simp only [Act.put, List.setIfInBounds_toArray, List.set_cons_zero, List.set_cons_succ]
            refine take_at (i := 6) (d := some 34) (v := undef) rfl rfl (by kernel_rfl) (by kernel_rfl) (by kernel_rfl) (fun _ _ _ h => h) (Or.inr ⟨by rfl, rfl⟩) (by assumption) ?_
            simp only [Act.put, List.setIfInBounds_toArray, List.set_cons_zero, List.set_cons_succ]
            refine take_at (i := 7) (d := some 35) (v := undef) rfl rfl (by kernel_rfl) (by kernel_rfl) (by kernel_rfl) (fun _ _ _ h => h) (Or.inr ⟨by rfl, rfl⟩) (by assumption) ?_
            simp only [Act.put, List.setIfInBounds_toArray, List.set_cons_zero, List.set_cons_succ]
            refine take_at (i := 8) (d := some 36) (v := undef) rfl rfl (by kernel_rfl) (by kernel_rfl) (by kernel_rfl) (fun _ _ _ h => h) (Or.inr ⟨by rfl, rfl⟩) (by assumption) ?_
            simp only [Act.put, List.setIfInBounds_toArray, List.set_cons_zero, List.set_cons_succ]
            refine take_at (i := 9) (d := some 37) (v := undef) rfl rfl (by kernel_rfl) (by kernel_rfl) (by kernel_rfl) (fun _ _ _ h => h) (Or.inr ⟨by rfl, rfl⟩) (by assumption) ?_
            simp only [Act.put, List.setIfInBounds_toArray, List.set_cons_zero, List.set_cons_succ]
            refine take_at (i := 10) (d := some 38) (v := undef) rfl rfl (by kernel_rfl) (by kernel_rfl) (by kernel_rfl) (fun _ _ _ h => h) (Or.inr ⟨by rfl, rfl⟩) (by assumption) ?_
            simp only [Act.put, List.setIfInBounds_toArray, List.set_cons_zero, List.set_cons_succ]
            refine take_at (i := 11) (d := some 39) (v := ?_) rfl rfl (by kernel_rfl) (by kernel_rfl) (by kernel_rfl) (fun _ _ _ h => h) (Or.inl ⟨by rfl, ?hyz11⟩) (by assumption) ?restz11
            case hyz11 => (intro w hSw; (try dsimp only at hSw); go_simp; try with_reducible rfl)
            simp only [Act.put, List.setIfInBounds_toArray, List.set_cons_zero, List.set_cons_succ]
            refine wpAnyH_done (by kernel_rfl) ?_ _
            go_wp2_with fail
            go_roundw
            case rel => first | exact ⟨1, hlt, rfl, hB.drew, Z⟩ | exact ⟨1, hlt, rfl, hB, Z⟩
            case measure => simp [intOf]; omega
          · obtain ⟨kp, hkp⟩ : ∃ kp, k = kp + 1 := ⟨k - 1, by omega⟩
            have hlp : kp < hs.length := by omega
            have c3 : _ = _ := (hB.cell (by rw [block_of_add]; exact HBK.out)).trans (HC.out kp hlp).1
            have c4 : _ = _ := (hB.cell (by rw [block_of_add]; exact HBK.out)).trans (HC.out kp hlp).2
            rw [add_succ] at c4
            have EKp : Hid (hs.getD (k - 1) (0, 0) = (hs[kp].1, hs[kp].2)) := Lib.hid (by rw [show k - 1 = kp by omega]; exact getD_get hlp)
            generalize hs[kp].1 = a' at *
            generalize hs[kp].2 = b' at *
            have g0 : (0 : Int) < (k : Int) := by omega
            have g1 : wrap64 ((k : Int) - 1) = (kp : Int) := by rw [hkp]; unfold wrap64; have := HN2.out; omega
            have g2 : (kp : Int) < (hs.length : Int) := by omega
            have g3 : kp < hs.length := hlp
            have g4 : 0 < k := by omega
            have g5 : IntKind.i64.wrap ((k : Int) - 1) = (kp : Int) := (IntWalk.i64_left _).trans g1
            have g6' : (0 : Int) ≤ (kp : Int) := by omega
            have g7 : (kp : Int) ≤ (hs.length : Int) := by omega
            have LA : Hid ((ad.add (kp * 2)).block < W1.heap.size) := Lib.hid (by rw [block_of_add]; exact Nat.lt_of_lt_of_le HBK.out hB.size)
            have LP : Hid (g6 < W1.heap.size) := Lib.hid hP.lt
            have HK := Lib.hid hkp
            replace hk0 := Lib.hid hk0
            clear hkp hlp
            have FE : Hid (followB (hs.getD (k - 1) (0, 0)) (hs.getD k (0, 0)) = followB (a', b') (a, b)) := Lib.hid (by rw [EKp.out, EK.out])
            have CF := Lib.hid (dFollow_any a' b' a b)
            cases tf : followB (a', b') (a, b) with
            | false =>
              have Z : Hid (orderedB hs = false) := Lib.hid (ord_follow hlt (by omega) (FE.out.trans tf))
              rw [tf] at CF
              replace tf := Lib.hid tf
              go_upto_region 8 with fail
              go_region_held3 (fun w' => w'.cell? (ad.add (kp * 2)) = some (.int .i64 a') ∧ w'.cell? ⟨(ad.add (kp * 2)).block, (ad.add (kp * 2)).off + 1, none⟩ = some (.int .i64 b') ∧ w'.cell? ⟨g6, 0, none⟩ = some (.int .i64 a) ∧ w'.cell? ⟨g6, 1, none⟩ = some (.int .i64 b))
                ((first | exact ⟨c3, c4, p0, p1⟩ | exact ⟨(h5.cell LA.out).trans c3, (h5.cell (p := ⟨(ad.add (kp * 2)).block, (ad.add (kp * 2)).off + 1, none⟩) LA.out).trans c4, (h5.cell LP.out).trans p0, (h5.cell LP.out).trans p1⟩))
                (first
                  | (go_at_call 44; refine (CF.out _).mono ?_; rintro e w5 ⟨rfl, hq⟩; have h5 : Below W1.heap.size W1 w5 := ⟨hq.os, hq.tape, hq.output, hq.size, hq.block⟩))
              all_goals
                go_wp2_with fail
                go_ret2
                exact OrdE.no (ext_step HBo.out h5) HH.out Z.out
            | true =>
              have Z : Hid (OrdTo hs (k + 1)) := Lib.hid (HO.out.next HT.out fun _ => FE.out.trans tf)
              rw [tf] at CF
              replace tf := Lib.hid tf
              go_upto_region 8 with fail
              go_region_held3 (fun w' => w'.cell? (ad.add (kp * 2)) = some (.int .i64 a') ∧ w'.cell? ⟨(ad.add (kp * 2)).block, (ad.add (kp * 2)).off + 1, none⟩ = some (.int .i64 b') ∧ w'.cell? ⟨g6, 0, none⟩ = some (.int .i64 a) ∧ w'.cell? ⟨g6, 1, none⟩ = some (.int .i64 b))
                ((first | exact ⟨c3, c4, p0, p1⟩ | exact ⟨(h5.cell LA.out).trans c3, (h5.cell (p := ⟨(ad.add (kp * 2)).block, (ad.add (kp * 2)).off + 1, none⟩) LA.out).trans c4, (h5.cell LP.out).trans p0, (h5.cell LP.out).trans p1⟩))
                (first
                  | (go_at_call 44; refine (CF.out _).mono ?_; rintro e w5 ⟨rfl, hq⟩; have h5 : Below W1.heap.size W1 w5 := ⟨hq.os, hq.tape, hq.output, hq.size, hq.block⟩))
              all_goals
                go_wp2_with fail
                go_roundw
                case rel => exact ⟨k + 1, hlt, by go_num, ext_step hB h5, Z⟩
                case measure => simp [intOf]; omega
    · obtain rfl : k = hs.length := by omega
      have Z : Hid (orderedB hs = true) := Lib.hid HO.out.all
      have HB := Lib.hid (ext_step HBW.out hB)
      have HGr := Lib.hid ((HG.out.below hB).more hB.size)
      clear hB
      go_wp2_with fail
      go_ret2
      exact OrdE.yes HB.out HH.out Z.out HGr.out
end Go.Proofs.Ytljgfallhnlebaa
