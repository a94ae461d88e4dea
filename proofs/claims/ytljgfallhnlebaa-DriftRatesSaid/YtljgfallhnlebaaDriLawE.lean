/- Law 4's DriftRates, walked from package drift's contracts. -/
import Derived.Test.YtljgfallhnlebaaDriLawC
import Derived.Deep.CutBlock
import Derived.Deep.DeepCutAuto
import Derived.Deep.RegionHeld3
namespace Go.Proofs.Ytljgfallhnlebaa
open Go.RowKit

theorem Gaps.cut {w : World} {B : Nat} {A : Option Addr} {n c : Nat} {gs : List (Int × Int)} (h : Gaps w B (.slice A n c) gs) {m : Nat} (hm : m ≤ gs.length) : Gaps w B (.slice A m c) (gs.take m) := by
  obtain ⟨A', c', e, hc, hr⟩ := h
  injection e with e1 e2 e3
  subst e1; subst e3
  have hl : (gs.take m).length = m := by rw [List.length_take]; omega
  refine ⟨A, c, by rw [hl], by omega, fun hn => ?_⟩
  obtain ⟨ad, e, hb, hcell⟩ := hr (by omega)
  refine ⟨ad, e, hb, fun j hj => ?_⟩
  rw [List.getElem_take]
  exact hcell j (by omega)
theorem Gaps.from_ {w : World} {B : Nat} {A : Option Addr} {n c : Nat} {gs : List (Int × Int)} (h : Gaps w B (.slice A n c) gs) {m : Nat} (hm : m ≤ gs.length) :
    Gaps w B (.slice (if c = m then A else A.map (·.add (m * 2))) (gs.length - m) (c - m)) (gs.drop m) := by
  obtain ⟨A', c', e, hc, hr⟩ := h
  injection e with e1 e2 e3
  subst e1; subst e3
  refine ⟨_, _, by rw [List.length_drop], by rw [List.length_drop]; omega, fun hn => ?_⟩
  rw [List.length_drop] at hn
  obtain ⟨ad, rfl, hb, hcell⟩ := hr (by omega)
  rw [if_neg (by omega)]
  refine ⟨ad.add (m * 2), rfl, by rw [block_of_add]; exact hb, fun j hj => ?_⟩
  rw [List.length_drop] at hj
  have e : ∀ i, (ad.add (m * 2)).add i = ad.add (m * 2 + i) := fun i => by
    unfold Addr.add
    by_cases h1 : m * 2 = 0 <;> by_cases h2 : i = 0 <;> simp [h1, h2, Nat.add_assoc]
  rw [e, e, show m * 2 + j * 2 = (m + j) * 2 by omega, show m * 2 + (j * 2 + 1) = (m + j) * 2 + 1 by omega, List.getElem_drop]
  exact hcell (m + j) (by omega)

theorem own_base {t : TypeId} {w1 w4 : World} {v4 : Value} {n : Nat} {xs : List Value} (_h4 : w4.ownsRow w1.heap.size t 2 v4 n xs) (hg4 : (w1.alloc (.cells #[] t)).grownBy w4 (Value.slice (some ⟨w1.heap.size, 0, none⟩) 0 0).ownBlock) : w1.heap.size ≤ w4.heap.size :=
  ((below_new w1 (.cells #[] t)).grown hg4 (by simp) (fun j hj => ((OwnG.empty t w1).lt j hj).1)).size
theorem own_more {t : TypeId} {w w1 w4 w5 : World} {v4 v5 : Value} {xs ys : List (Int × Int)} {n m : Nat} (hn : n = xs.length) (hm : m = ys.length) (hw : w.heap.size ≤ w1.heap.size)
    (h4 : w4.ownsRow w1.heap.size t 2 v4 (0 + n) ([] ++ cellsG xs)) (hB4 : Below w.heap.size w w4) (h5 : w5.ownsRow w1.heap.size t 2 v5 (0 + n + m) ([] ++ cellsG xs ++ cellsG ys)) (hg5 : w4.grownBy w5 v4.ownBlock) :
    Gaps w5 w5.heap.size v5 (xs ++ ys) ∧ Below w.heap.size w w5 := by
  subst hn; subst hm
  have h' : OwnG t w5 w1.heap.size v5 (xs ++ ys) := by
    have e : cellsG (xs ++ ys) = cellsG xs ++ cellsG ys := by unfold cellsG; exact List.flatMap_append
    unfold OwnG
    rw [e, List.length_append]
    simpa using h5
  exact ⟨h'.gaps, hB4.grown hg5 hB4.size (fun j hj => Nat.le_trans hw (h4.lt j hj).1)⟩

set_option maxRecDepth 100000 in
set_option maxHeartbeats 8000000 in
theorem driftRates_any (G : DriftC) (r m : Int) (v : Value) (gs : List (Int × Int)) (skip : Int) (w : World) (hr : Fits r) (hm : Fits m) (hl : Gaps w w.heap.size v gs) (hf : ∀ g ∈ gs, Fits g.1 ∧ Fits g.2) (hbig : gs.length ≤ 9223372036854775807) :
    Calls Try.prog 7 #[.int .i64 r, .int .i64 m, v, .int .i64 skip] w fun e w' => e = .returned (.bool true) ∧ Below w.heap.size w w' := by
  have C0 := Lib.hid (alive4_any G)
  have HL := Lib.hid hl
  obtain ⟨A, c, rfl⟩ := hl.len
  have hB := Below.refl w.heap.size w
  by_cases h30 : 30 < gs.length
  · have h30' : 30 < (gs.length : Int) := by omega
    clear hl hf G hr hm
    go_enter Try.func7, Try.ntmps7
    go_wp2_with fail
    refine (C0.out _).mono ?_; rintro e w1 ⟨rfl, h1⟩
    go_wp2_with fail
    go_ret
    exact ⟨rfl, h1⟩
  have h30' : ¬ 30 < (gs.length : Int) := by omega
  have CH := Lib.hid fun s (hs : Fits s) (W : World) (h : Gaps W W.heap.size (.slice A gs.length c) gs) => G.honest s _ gs W hs h hf (by omega)
  have CL := Lib.hid fun (W : World) (h : Gaps W W.heap.size (.slice A gs.length c) gs) => G.least _ gs W h hf (by omega)
  have CE := Lib.hid fun u hs (W : World) (hp : ∀ g ∈ hs, g ∈ gs) (hn : hs.length ≤ 1000000) (h : Gaps W W.heap.size u hs) => G.honest r u hs W hr h (fun g hg => hf g (hp g hg)) hn
  have CR := Lib.hid (CH.out r hr)
  have HM := Lib.hid hm
  cases hh : honestB r gs with
  | false =>
    rw [hh] at CR
    clear hl hf G hr hm hh CH CL CE
    go_enter Try.func7, Try.ntmps7
    go_wp2_with fail
    refine (C0.out _).mono ?_; rintro e w1 ⟨rfl, h⟩
    replace hB := ext_step hB h
    go_wp2_with fail
    refine (CR.out _ ((HL.out.below hB).more hB.size)).mono ?_; rintro e w2 ⟨rfl, h⟩
    replace hB := ext_step hB h
    go_wp2_with fail
    go_ret
    exact ⟨rfl, hB⟩
  | true =>
    rw [hh] at CR
    have HH := Lib.hid hh
    have rr := (honest_iff.1 hh).1
    obtain ⟨n, n0, n1, hn, hmin, hle⟩ : ∃ n, 0 ≤ n ∧ n ≤ 100000 ∧ honestB n gs = true ∧ (∀ j, 0 ≤ j → j < n → honestB j gs = false) ∧ leastI gs = (n, true) := by
      rcases least_cases gs with ⟨h, _⟩ | h
      · rw [honest_more rr.2 (by omega) hh] at h; cases h
      · exact h
    have n2 : n ≤ r := by
      rcases Int.lt_or_le r n with k | k
      · rw [hmin r rr.1 k] at hh; cases hh
      · exact k
    unfold NumB at CL
    rw [hle] at CL
    dsimp only at CL
    have CN := Lib.hid (CH.out n (by unfold Fits; omega))
    rw [hn] at CN
    have CP := Lib.hid fun (h : 0 < n) => CH.out (n - 1) (by unfold Fits; omega)
    have HMIN := Lib.hid fun (h : 0 < n) => hmin (n - 1) (by omega) (by omega)
    have HR1 := Lib.hid rr
    have e3 : decide (r < n) = false := decide_eq_false (by omega)
    obtain ⟨i0, hi, hz0, hz1, hz2⟩ := info_parts drift_info
    clear hl hf G hr hm hh hn hmin hle rr
    go_enter Try.func7, Try.ntmps7
    go_wp2_with fail
    refine (C0.out _).mono ?_; rintro e w1 ⟨rfl, h⟩
    replace hB := ext_step hB h
    go_wp2_with fail
    refine (CR.out _ ((HL.out.below hB).more hB.size)).mono ?_; rintro e w2 ⟨rfl, h⟩
    replace hB := ext_step hB h
    clear h C0 CR
    go_upto_region 5 with fail
    go_cut [35] (fun u wx => u = .bool false ∧ Below w.heap.size w wx)
    case first =>
      by_cases h1 : r ≤ m
      · have e1 : decide (m ≥ r) = true := decide_eq_true h1
        by_cases h2 : m ≤ 100000
        · have CM := Lib.hid (CH.out m HM.out)
          rw [honest_more h1 h2 HH.out] at CM
          go_wp2_with fail
          refine (CM.out _ ((HL.out.below hB).more hB.size)).mono ?_; rintro e w3 ⟨rfl, h⟩
          replace hB := ext_step hB h
          go_wp2_with fail
          go_meet
          exact ⟨rfl, hB⟩
        · go_wp2_with fail
          go_meet
          exact ⟨rfl, hB⟩
      · have e1 : decide (m ≥ r) = false := decide_eq_false h1
        clear h1
        go_wp2_with fail
        go_meet
        exact ⟨rfl, hB⟩
    case rest =>
      clear hB
      obtain ⟨rfl, hB⟩ := hcut
      go_wp2_with fail
      refine (CL.out _ ((HL.out.below hB).more hB.size)).mono ?_; rintro e w4 ⟨rfl, h⟩
      replace hB := ext_step hB h
      clear h CL
      go_upto_region 8 with fail
      go_cut [63] (fun u wx => u = .bool false ∧ Below w.heap.size w wx)
      case first =>
        by_cases hz : 0 < n
        · have CP := Lib.hid (CP.out hz)
          rw [HMIN.out hz] at CP
          go_wp2_with fail
          refine (CN.out _ ((HL.out.below hB).more hB.size)).mono ?_; rintro e w5 ⟨rfl, h⟩
          replace hB := ext_step hB h
          go_wp2_with fail
          refine (CP.out _ ((HL.out.below hB).more hB.size)).mono ?_; rintro e w6 ⟨rfl, h⟩
          replace hB := ext_step hB h
          go_wp2_with fail
          go_meet
          exact ⟨rfl, hB⟩
        · go_wp2_with fail
          refine (CN.out _ ((HL.out.below hB).more hB.size)).mono ?_; rintro e w5 ⟨rfl, h⟩
          replace hB := ext_step hB h
          go_wp2_with fail
          go_meet
          exact ⟨rfl, hB⟩
      case rest =>
        clear hB CN CP HMIN CH n0 n1 n2
        obtain ⟨rfl, hB⟩ := hcut
        by_cases hs : skip < 0
        · go_wp2_with fail
          go_ret
          exact ⟨rfl, hB⟩
        by_cases hs2 : (gs.length : Int) ≤ skip
        · have e2 : decide (skip ≥ (gs.length : Int)) = true := decide_eq_true hs2
          go_wp2_with fail
          go_ret
          exact ⟨rfl, hB⟩
        have e2 : decide (skip ≥ (gs.length : Int)) = false := decide_eq_false hs2
        obtain ⟨k, rfl⟩ := Int.eq_ofNat_of_zero_le (show 0 ≤ skip by omega)
        have hk : k < gs.length := by omega
        clear hs hs2
        go_upto_region 12 with fail
        have hBd : Below w.heap.size w wc.drew := ext_drew hB
        have HTL : Hid ((gs.take k).length = k) := Lib.hid (by rw [List.length_take]; omega)
        have SRC1 : Hid (SrcV (wc.drew.alloc (.cells #[] 36)) A k (cellsG (gs.take k))) := Lib.hid (by
          have h := (HL.out.cut (Nat.le_of_lt hk)).src (w' := wc.drew.alloc (.cells #[] 36)) (fun p hp => (ext_alloc hBd (.cells #[] 36)).cell hp)
          rw [HTL.out] at h
          exact h)
        have S2 : Hid (∀ W', Below w.heap.size w W' → SrcV W' (if c = k + 1 then A else A.map (·.add ((k + 1) * 2))) (gs.length - (k + 1)) (cellsG (gs.drop (k + 1)))) := Lib.hid fun W' h' => by
          have h := (HL.out.from_ (show k + 1 ≤ gs.length by omega)).src (w' := W') (fun p hp => h'.cell hp)
          rw [List.length_drop] at h
          exact h
        have hcap : gs.length ≤ c := by
          obtain ⟨A', c', e, hc, _⟩ := HL.out
          injection e with _ _ e
          omega
        have g0 : (0 : Int) ≤ (k : Int) := by omega
        have g1 : (k : Int) ≤ (c : Int) := by omega
        have g2 : (k : Int) ≤ (gs.length : Int) := by omega
        have g3 : IntKind.i64.wrap ((k : Int) + 1) = (k : Int) + 1 := IntWalk.i64_in _ (by omega)
        have g4 : (0 : Int) ≤ (k : Int) + 1 := by omega
        have g5 : (k : Int) + 1 ≤ (gs.length : Int) := by omega
        have g6 : (k : Int) + 1 ≤ (c : Int) := by omega
        have g7 : ((k : Int) + 1).toNat = k + 1 := by omega
        have g8 : k ≤ c := by omega
        have g9 : k + 1 ≤ c := by omega
        have HDL : Hid (gs.length - (k + 1) = (gs.drop (k + 1)).length) := Lib.hid (by rw [List.length_drop])
        have HPART : Hid (∀ g ∈ gs.take k ++ gs.drop (k + 1), g ∈ gs) := Lib.hid fun g hg => by
          rcases List.mem_append.1 hg with h | h
          · exact List.mem_of_mem_take h
          · exact List.mem_of_mem_drop h
        have HLEN : Hid ((gs.take k ++ gs.drop (k + 1)).length ≤ 1000000) := Lib.hid (by rw [List.length_append, List.length_take, List.length_drop]; omega)
        have HON : Hid (honestB r (gs.take k ++ gs.drop (k + 1)) = true) := Lib.hid (honest_part HPART.out HH.out)
        have g10 : (k : Int) ≤ (k : Int) + 1 := by omega
        have g11 : ¬ c = 0 := by omega
        by_cases hck : c = k + 1
        · have hS := S2.out
          have e0 : gs.length - (k + 1) = 0 := by omega
          rw [if_pos hck, e0] at hS
          rw [e0] at HDL
          replace S2 := Lib.hid hS
          clear hS e0
          subst hck
          go_region_held3 (fun _ => True) (exact trivial)
            (first
              | (refine step_append_cells _ rfl (.tmp 72) (.tmp 75) 28 rfl wc.heap.size 36 i0 (.agg #[.int .i64 0, .int .i64 0]) 2 16 Try.underlying28 hi hz0 hz1 hz2 rfl (by decide) _ 0 [] rfl (by exact OwnG.empty 36 wc) A k (k + 1) (cellsG (gs.take k)) rfl (by rw [cellsG_length, HTL.out]) (by exact SRC1.out) (cellsG_one _) (by unfold maxLen; omega) (by omega) (by simp) ?_; intro v4 w4 ho4 hg4; have hb4 := (own_made HTL.out.symm hBd ho4 hg4).2; have lt4 := Lib.hid (S2.out w4 hb4); have sz4 := Lib.hid (own_base (w1 := wc.drew) ho4 hg4))
              | (refine step_append_cells _ rfl (.tmp 76) (.tmp 80) 28 rfl wc.heap.size 36 i0 (.agg #[.int .i64 0, .int .i64 0]) 2 16 Try.underlying28 hi hz0 hz1 hz2 rfl (by decide) v4 (0 + k) ([] ++ cellsG (gs.take k)) rfl (by exact ho4) A 0 _ (cellsG (gs.drop (k + 1))) rfl (by rw [cellsG_length, ← HDL.out]) (by exact lt4.out) (cellsG_one _) (by unfold maxLen; omega) (by omega) (by exact sz4.out) ?_; intro v5 w5 ho5 hg5))
          all_goals
            obtain ⟨hG5, hB5⟩ := own_more HTL.out.symm HDL.out hB.size ho4 hb4 ho5 hg5
            have CX := Lib.hid (CE.out v5 (gs.take k ++ gs.drop (k + 1)) w5 HPART.out HLEN.out hG5)
            rw [HON.out] at CX
            clear ho4 hg4 ho5 hg5 hG5 lt4 sz4 hb4
            go_wp2_with fail
            refine (CX.out).mono ?_; rintro e w6 ⟨rfl, h⟩
            go_wp2_with fail
            go_ret
            exact ⟨rfl, ext_step hB5 h⟩
        · have hS := S2.out
          rw [if_neg hck] at hS
          replace S2 := Lib.hid hS
          clear hS
          go_region_held3 (fun _ => True) (exact trivial)
            (first
              | (refine step_append_cells _ rfl (.tmp 72) (.tmp 75) 28 rfl wc.heap.size 36 i0 (.agg #[.int .i64 0, .int .i64 0]) 2 16 Try.underlying28 hi hz0 hz1 hz2 rfl (by decide) _ 0 [] rfl (by exact OwnG.empty 36 wc) A k c (cellsG (gs.take k)) rfl (by rw [cellsG_length, HTL.out]) (by exact SRC1.out) (cellsG_one _) (by unfold maxLen; omega) (by omega) (by simp) ?_; intro v4 w4 ho4 hg4; have hb4 := (own_made HTL.out.symm hBd ho4 hg4).2; have lt4 := Lib.hid (S2.out w4 hb4); have sz4 := Lib.hid (own_base (w1 := wc.drew) ho4 hg4))
              | (refine step_append_cells _ rfl (.tmp 76) (.tmp 80) 28 rfl wc.heap.size 36 i0 (.agg #[.int .i64 0, .int .i64 0]) 2 16 Try.underlying28 hi hz0 hz1 hz2 rfl (by decide) v4 (0 + k) ([] ++ cellsG (gs.take k)) rfl (by exact ho4) (Option.map (fun x => x.add ((k + 1) * 2)) A) (gs.length - (k + 1)) _ (cellsG (gs.drop (k + 1))) rfl (by rw [cellsG_length, List.length_drop]) (by exact lt4.out) (cellsG_one _) (by unfold maxLen; omega) (by omega) (by exact sz4.out) ?_; intro v5 w5 ho5 hg5))
          all_goals
            obtain ⟨hG5, hB5⟩ := own_more HTL.out.symm HDL.out hB.size ho4 hb4 ho5 hg5
            have CX := Lib.hid (CE.out v5 (gs.take k ++ gs.drop (k + 1)) w5 HPART.out HLEN.out hG5)
            rw [HON.out] at CX
            clear ho4 hg4 ho5 hg5 hG5 lt4 sz4 hb4
            go_wp2_with fail
            refine (CX.out).mono ?_; rintro e w6 ⟨rfl, h⟩
            go_wp2_with fail
            go_ret
            exact ⟨rfl, ext_step hB5 h⟩
end Go.Proofs.Ytljgfallhnlebaa
