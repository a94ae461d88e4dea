/- Law 3's GapPoints, walked from package gap's contracts. -/
import Derived.Test.YthkeofpmappdhaaGapC
import Derived.Test.YthkeofpmappdhaaGapPt
import Derived.Test.YthkeofpmappdhaaTake
import Derived.Test.YthkeofpmappdhaaGapLawB
import Derived.IntWalk
namespace Go.Proofs.Ythkeofpmappdhaa
open Go.RowKit

/-- The number is within the gap. -/
def InG (a b z : Int) : Prop := a ≤ z ∧ z ≤ b
theorem grow_points {a b y u1 u2 u3 : Int} (hr : a ≤ b) (hy : 0 ≤ y) (h : growI a b y y = (u1, u2, u3)) (h0 : u3 = 0) : u1 = a - y ∧ u2 = b + y ∧ Fits u1 ∧ Fits u2 := by
  subst h0
  unfold growI at h
  rw [if_neg (by omega)] at h
  by_cases hf : Fits (a - y) ∧ Fits (b + y)
  · rw [if_pos hf, if_neg (by omega)] at h
    injection h with h1 h
    injection h with h2 _
    subst h1; subst h2
    exact ⟨rfl, rfl, hf.1, hf.2⟩
  · rw [if_neg hf] at h
    injection h with _ h
    injection h with _ h
    cases h
theorem mid_in {a b : Int} (h : a ≤ b) : InG a b (midI a b) := by
  unfold midI InG
  rw [if_neg (by omega)]
  omega
theorem allRight_all {gs : List (Int × Int)} (h : ∀ j (hj : j < gs.length), j < gs.length → gs[j].1 ≤ gs[j].2) : allRight gs = true := allRight_of fun j hj => h j hj hj
theorem allRight_at {gs : List (Int × Int)} (h : allRight gs = true) {k : Nat} (hk : k < gs.length) : gs[k].1 ≤ gs[k].2 := by
  unfold allRight at h
  exact of_decide_eq_true (List.all_eq_true.1 h _ (List.getElem_mem hk))
theorem u64_in (n : Int) (h : 0 ≤ n ∧ n ≤ 18446744073709551615) : IntKind.u64.wrap n = n := by
  simp [IntKind.wrap, IntKind.signed, IntKind.bits]; omega

set_option maxRecDepth 100000 in
set_option maxHeartbeats 16000000 in
theorem gapPoints_any (G : GapC) (v : Value) (gs : List (Int × Int)) (x y : Int) (w : World) (hl : Gaps w w.heap.size v gs) (hf : ∀ g ∈ gs, Fits g.1 ∧ Fits g.2) (hbig : gs.length ≤ 9223372036854775807) (hx : Fits x) (hy : 0 ≤ y ∧ y ≤ 4294967295) :
    Calls Try.prog 5 #[v, .int .i64 x, .int .u32 y] w fun e w' => e = .returned (.bool true) ∧ Below w.heap.size w w' := by
  have CAL := Lib.hid (alive3_any G)
  have HL := Lib.hid hl
  obtain ⟨A, c, rfl⟩ := hl.len
  by_cases h100 : 100 < gs.length
  · have h100' : 100 < (gs.length : Int) := by omega
    clear hl hf G
    go_enter Try.func5, Try.ntmps5
    go_wp2_with fail
    refine (CAL.out _).mono ?_; rintro e w1 ⟨rfl, h1⟩
    go_wp2_with fail
    go_ret
    exact ⟨rfl, h1⟩
  have h100' : ¬ 100 < (gs.length : Int) := by omega
  have CM := Lib.hid fun (W : World) (h : Gaps W W.heap.size (.slice A gs.length c) gs) => G.meet _ gs W h hf (by omega)
  have CH := Lib.hid fun (W : World) (h : Gaps W W.heap.size (.slice A gs.length c) gs) => G.hull _ gs W h hf (by omega)
  have HF := Lib.hid hf
  have HG := Lib.hid G
  have HX := Lib.hid hx
  have HY := Lib.hid hy
  have HMP := Lib.hid fun m1 m2 m3 => @meet_points gs x m1 m2 m3 hx
  have HHP := Lib.hid fun p1 p2 p3 => @hull_points gs x p1 p2 p3
  have y1 : IntKind.i64.wrap y = y := IntWalk.i64_in _ (by omega)
  have y2 : IntKind.u64.wrap y = y := u64_in _ (by omega)
  have y3 : IntKind.u64.wrap (2 * y) = 2 * y := u64_in _ (by omega)
  unfold GapE at CM CH
  clear hl hf G hx hy
  go_enter Try.func5, Try.ntmps5
  go_wp2_with fail
  refine (CAL.out _).mono ?_; rintro e w1 ⟨rfl, hB1⟩
  clear CAL
  go_wp2_with fail
  go_loopw [7, 8, 9] (fun u v i wr => ∃ k : Nat, k ≤ gs.length ∧ i = .int .i64 k ∧ u = .bool (eachB (gs.take k) x) ∧ v = .bool (someB (gs.take k) x) ∧ Below w.heap.size w wr ∧ Hid (∀ j (hj : j < gs.length), j < k → gs[j].1 ≤ gs[j].2)) (fun _ _ i _ => gs.length - (intOf i).toNat)
  case atStart => exact ⟨0, Nat.zero_le _, rfl, rfl, rfl, hB1, Lib.hid fun j _ hj => absurd hj (by omega)⟩
  case round =>
    clear hB1
    obtain ⟨k, hk, rfl, rfl, rfl, hB, hall⟩ := hrel
    rename_i wr _ _
    by_cases hlt : k < gs.length
    · obtain ⟨ad, rfl, hb, hcell⟩ := HL.out.at_ (by omega)
      have c1 : _ = _ := (hB.cell (by rw [block_of_add]; exact hb)).trans (hcell k hlt).1
      have c2 : _ = _ := (hB.cell (by rw [block_of_add]; exact hb)).trans (hcell k hlt).2
      rw [add_succ] at c2
      have hall' : Hid (gs[k].1 ≤ gs[k].2 → ∀ j (hj : j < gs.length), j < k + 1 → gs[j].1 ≤ gs[j].2) := Lib.hid fun hle j hj hjk => by
        by_cases e : j = k
        · subst e; exact hle
        · exact hall.out j hj (by omega)
      have N1 := Lib.hid (eachB_next hlt x)
      have N2 := Lib.hid (someB_next hlt x)
      have ff := HF.out _ (List.getElem_mem hlt)
      clear hcell hb hall
      generalize gs[k].1 = a at *
      generalize gs[k].2 = b at *
      generalize eachB (gs.take k) x = eb at *
      generalize someB (gs.take k) x = sb at *
      have FA := Lib.hid ff.1
      have FB := Lib.hid ff.2
      clear ff
      have CR := Lib.hid (HG.out.right a b)
      have CX := Lib.hid (HG.out.has a b x)
      change Hid (∀ w, Calls Try.prog 17 #[gapV a b, .int .i64 x] w fun e w' => e = .returned (.bool (hasB a b x)) ∧ Below w.heap.size w w') at CX
      generalize hasB a b x = hb at *
      have hG := At2.new wr (.int .i64 a) (.int .i64 b) 23
      replace hB := ext_alloc hB (.cells #[.int .i64 a, .int .i64 b] 23)
      by_cases hr : a ≤ b
      · have e1 : decide (a ≤ b) = true := decide_eq_true hr
        rw [e1] at CR
        replace hall' := Lib.hid (hall'.out hr)
        have HR := Lib.hid hr
        clear e1 hr
        go_wp2_with fail
        refine (CR.out _).mono ?_; rintro e w2 ⟨rfl, h⟩
        clear c1 c2 CR
        replace hG := hG.below h
        replace hB := ext_step hB h; clear h
        generalize wr.heap.size = gG at *
        go_upto_region 13 with fail
        go_cut [7] (fun u wx => u = .bool (eb && hb) ∧ At2 wx gG (.int .i64 a) (.int .i64 b) ∧ Below w.heap.size w wx)
        case first =>
          cases eb
          · go_wp2_with fail
            go_meet
            exact ⟨rfl, hG, hB⟩
          · obtain ⟨g0, g1, -, -⟩ := id hG
            go_wp2_with fail
            refine (CX.out _).mono ?_; rintro e w3 ⟨rfl, h⟩
            clear g0 g1
            go_wp2_with fail
            go_meet
            exact ⟨rfl, hG.below h, ext_step hB h⟩
        case rest =>
          clear hG hB
          obtain ⟨rfl, hG, hB⟩ := hcut
          go_upto_region 14 with fail
          go_cut [8] (fun u wx => u = .bool (sb || hb) ∧ At2 wx gG (.int .i64 a) (.int .i64 b) ∧ Below w.heap.size w wx)
          case first =>
            cases sb
            · obtain ⟨g0, g1, -, -⟩ := id hG
              go_wp2_with fail
              refine (CX.out _).mono ?_; rintro e w3 ⟨rfl, h⟩
              clear g0 g1
              go_wp2_with fail
              go_meet
              exact ⟨rfl, hG.below h, ext_step hB h⟩
            · go_wp2_with fail
              go_meet
              exact ⟨rfl, hG, hB⟩
          case rest =>
            clear hG hB CX
            obtain ⟨rfl, hG, hB⟩ := hcut
            have CK := Lib.hid fun W => HG.out.mid a b W FA.out FB.out
            have CZ := Lib.hid fun z (hz : InG a b z) W => gcall_as (Q' := fun e w' => e = .returned (.bool true) ∧ Below W.heap.size W w') (HG.out.has a b z W) rfl fun e w' ⟨he, h⟩ => ⟨by rw [he]; exact congrArg (fun t => Ending.returned (.bool t)) (decide_eq_true hz), h⟩
            have CG := Lib.hid fun W => HG.out.grow a b y y W FA.out FB.out (by have := HY.out; unfold Fits; omega) (by have := HY.out; unfold Fits; omega)
            have z1 : InG a b a := ⟨Int.le_refl _, HR.out⟩
            have z2 : InG a b b := ⟨HR.out, Int.le_refl _⟩
            have z3 := mid_in HR.out
            have HGR := Lib.hid fun u1 u2 u3 => @grow_points a b y u1 u2 u3 HR.out HY.out.1
            unfold GapE at CG
            generalize midI a b = md at *
            generalize hgr : growI a b y y = gr at CG
            obtain ⟨u1, u2, u3⟩ := gr
            dsimp only at CG
            replace HGR := Lib.hid (HGR.out u1 u2 u3 hgr)
            clear hgr
            go_upto_region 15 with fail
            go_cut [66] (fun u wx => u = .bool false ∧ At2 wx gG (.int .i64 a) (.int .i64 b) ∧ Below w.heap.size w wx)
            case first =>
              go_region_held3 (fun w' => w'.cell? ⟨gG, 0, none⟩ = some (.int .i64 a) ∧ w'.cell? ⟨gG, 1, none⟩ = some (.int .i64 b)) (exact ⟨hG.c0, hG.c1⟩)
                (first
                  | (go_at_call 15; refine (CK.out _).mono ?_; rintro e v0 ⟨rfl, hq⟩; have hG := hG.below ⟨hq.os, hq.tape, hq.output, hq.size, hq.block⟩; have hB := ext_step hB ⟨hq.os, hq.tape, hq.output, hq.size, hq.block⟩; clear hq)
                  | (go_at_call 17; refine (CZ.out _ (by first | exact z3 | exact z1 | exact z2) _).mono ?_; rintro e v1 ⟨rfl, hq⟩; have hG := hG.below ⟨hq.os, hq.tape, hq.output, hq.size, hq.block⟩; have hB := ext_step hB ⟨hq.os, hq.tape, hq.output, hq.size, hq.block⟩; clear hq))
              all_goals
                go_wp2_with fail
                go_meet
                exact ⟨rfl, hG, hB⟩
            case rest =>
              clear hG hB CK CZ z1 z2 z3
              obtain ⟨rfl, hG, hB⟩ := hcut
              obtain ⟨g0, g1, -, -⟩ := id hG
              go_wp2_with fail
              refine (CG.out _).mono ?_; rintro e w4 ⟨rfl, h⟩
              clear g0 g1 CG
              replace hG := (hG.below h).alloc (.cells #[.int .i64 u1, .int .i64 u2] 23)
              replace hB := ext_alloc (ext_step hB h) (.cells #[.int .i64 u1, .int .i64 u2] 23); clear h
              have hU := At2.new w4 (.int .i64 u1) (.int .i64 u2) 23
              go_upto_region 18 with fail
              generalize w4.heap.size = gU at *
              generalize w4.alloc (.cells #[.int .i64 u1, .int .i64 u2] 23) = W4 at *
              go_cut [94] (fun u wx => u = .bool false ∧ Below w.heap.size w wx)
              case first =>
                by_cases h0 : u3 = 0
                · obtain ⟨rfl, rfl, f1, f2⟩ := HGR.out h0
                  subst h0
                  have CI := Lib.hid (HG.out.within a b (a - y) (b + y))
                  have CW1 := Lib.hid fun W => HG.out.width (a - y) (b + y) W f1 f2
                  have CW2 := Lib.hid fun W => HG.out.width a b W FA.out FB.out
                  rw [decide_eq_true (by have := HR.out; have := HY.out; omega)] at CI
                  rw [if_pos (by have := HR.out; have := HY.out; omega), show b + y - (a - y) = b - a + 2 * y by omega] at CW1
                  rw [if_pos HR.out] at CW2
                  have y4 : IntKind.u64.wrap (b - a + 2 * y) = b - a + 2 * y := u64_in _ (by have := HR.out; have := HY.out; have := f1; have := f2; unfold Fits at *; omega)
                  generalize hy1 : a - y = n1 at *
                  generalize hy2 : b + y = n2 at *
                  clear hy1 hy2 f1 f2
                  go_region_held3 (fun w' => w'.cell? ⟨gG, 0, none⟩ = some (.int .i64 a) ∧ w'.cell? ⟨gG, 1, none⟩ = some (.int .i64 b) ∧ w'.cell? ⟨gU, 0, none⟩ = some (.int .i64 n1) ∧ w'.cell? ⟨gU, 1, none⟩ = some (.int .i64 n2)) (exact ⟨hG.c0, hG.c1, hU.c0, hU.c1⟩)
                    (first
                      | (go_at_call 18; refine (CI.out _).mono ?_; rintro e v0 ⟨rfl, hq⟩; have hG := hG.below ⟨hq.os, hq.tape, hq.output, hq.size, hq.block⟩; have hU := hU.below ⟨hq.os, hq.tape, hq.output, hq.size, hq.block⟩; have hB := ext_step hB ⟨hq.os, hq.tape, hq.output, hq.size, hq.block⟩; clear hq)
                      | (go_at_call_of 19 n1; refine (CW1.out _).mono ?_; rintro e v1 ⟨rfl, hq⟩; have hG := hG.below ⟨hq.os, hq.tape, hq.output, hq.size, hq.block⟩; have hU := hU.below ⟨hq.os, hq.tape, hq.output, hq.size, hq.block⟩; have hB := ext_step hB ⟨hq.os, hq.tape, hq.output, hq.size, hq.block⟩; clear hq)
                      | (go_at_call_of 19 a; refine (CW2.out _).mono ?_; rintro e v2 ⟨rfl, hq⟩; have hG := hG.below ⟨hq.os, hq.tape, hq.output, hq.size, hq.block⟩; have hU := hU.below ⟨hq.os, hq.tape, hq.output, hq.size, hq.block⟩; have hB := ext_step hB ⟨hq.os, hq.tape, hq.output, hq.size, hq.block⟩; clear hq))
                  all_goals
                    go_wp2_with fail
                    go_meet
                    exact ⟨rfl, hB⟩
                · have e3 : (u3 == 0) = false := by simpa using h0
                  clear h0
                  refine wp_region_held_drew (S := fun w' => w'.cell? ⟨gG, 0, none⟩ = some (.int .i64 a) ∧ w'.cell? ⟨gG, 1, none⟩ = some (.int .i64 b)) (by kernel_rfl) ?_ (fun hHeld => ?_)
                  · exact ⟨hG.c0, hG.c1⟩
                  refine take_at (i := 0) (d := some 76) (v := ?_) rfl rfl (by kernel_rfl) (by kernel_rfl) (by kernel_rfl) (fun _ _ _ h => h) (Or.inl ⟨by rfl, ?hyp0⟩) (by assumption) ?restp0
                  case hyp0 => (intro w hSw; (try dsimp only at hSw); go_simp; try with_reducible rfl)
                  simp only [Act.put, List.setIfInBounds_toArray, List.set_cons_zero, List.set_cons_succ]
                  refine take_at (i := 1) (d := some 77) (v := ?_) rfl rfl (by kernel_rfl) (by kernel_rfl) (by kernel_rfl) (fun _ _ _ h => h) (Or.inl ⟨by rfl, ?hyp1⟩) (by assumption) ?restp1
                  case hyp1 => (intro w hSw; (try dsimp only at hSw); go_simp; try with_reducible rfl)
                  simp only [Act.put, List.setIfInBounds_toArray, List.set_cons_zero, List.set_cons_succ]
                  refine take_at (i := 2) (d := some 78) (v := ?_) rfl rfl (by kernel_rfl) (by kernel_rfl) (by kernel_rfl) (fun _ _ _ h => h) (Or.inl ⟨by rfl, ?hyp2⟩) (by assumption) ?restp2
                  case hyp2 => (intro w hSw; (try dsimp only at hSw); go_simp; try with_reducible rfl)
                  simp only [Act.put, List.setIfInBounds_toArray, List.set_cons_zero, List.set_cons_succ]
                  refine take_at (i := 3) (d := some 79) (v := undef) rfl rfl (by kernel_rfl) (by kernel_rfl) (by kernel_rfl) (fun _ _ _ h => h) (Or.inr ⟨by rfl, rfl⟩) (by assumption) ?_
                  simp only [Act.put, List.setIfInBounds_toArray, List.set_cons_zero, List.set_cons_succ]
                  refine take_at (i := 4) (d := some 80) (v := undef) rfl rfl (by kernel_rfl) (by kernel_rfl) (by kernel_rfl) (fun _ _ _ h => h) (Or.inr ⟨by rfl, rfl⟩) (by assumption) ?_
                  simp only [Act.put, List.setIfInBounds_toArray, List.set_cons_zero, List.set_cons_succ]
                  refine take_at (i := 5) (d := some 81) (v := undef) rfl rfl (by kernel_rfl) (by kernel_rfl) (by kernel_rfl) (fun _ _ _ h => h) (Or.inr ⟨by rfl, rfl⟩) (by assumption) ?_
                  simp only [Act.put, List.setIfInBounds_toArray, List.set_cons_zero, List.set_cons_succ]
                  refine take_at (i := 6) (d := some 82) (v := undef) rfl rfl (by kernel_rfl) (by kernel_rfl) (by kernel_rfl) (fun _ _ _ h => h) (Or.inr ⟨by rfl, rfl⟩) (by assumption) ?_
                  simp only [Act.put, List.setIfInBounds_toArray, List.set_cons_zero, List.set_cons_succ]
                  refine take_at (i := 7) (d := some 83) (v := undef) rfl rfl (by kernel_rfl) (by kernel_rfl) (by kernel_rfl) (fun _ _ _ h => h) (Or.inr ⟨by rfl, rfl⟩) (by assumption) ?_
                  simp only [Act.put, List.setIfInBounds_toArray, List.set_cons_zero, List.set_cons_succ]
                  refine take_at (i := 8) (d := some 84) (v := undef) rfl rfl (by kernel_rfl) (by kernel_rfl) (by kernel_rfl) (fun _ _ _ h => h) (Or.inr ⟨by rfl, rfl⟩) (by assumption) ?_
                  simp only [Act.put, List.setIfInBounds_toArray, List.set_cons_zero, List.set_cons_succ]
                  refine take_at (i := 9) (d := some 85) (v := undef) rfl rfl (by kernel_rfl) (by kernel_rfl) (by kernel_rfl) (fun _ _ _ h => h) (Or.inr ⟨by rfl, rfl⟩) (by assumption) ?_
                  simp only [Act.put, List.setIfInBounds_toArray, List.set_cons_zero, List.set_cons_succ]
                  refine take_at (i := 10) (d := some 86) (v := undef) rfl rfl (by kernel_rfl) (by kernel_rfl) (by kernel_rfl) (fun _ _ _ h => h) (Or.inr ⟨by rfl, rfl⟩) (by assumption) ?_
                  simp only [Act.put, List.setIfInBounds_toArray, List.set_cons_zero, List.set_cons_succ]
                  refine take_at (i := 11) (d := some 87) (v := undef) rfl rfl (by kernel_rfl) (by kernel_rfl) (by kernel_rfl) (fun _ _ _ h => h) (Or.inr ⟨by rfl, rfl⟩) (by assumption) ?_
                  simp only [Act.put, List.setIfInBounds_toArray, List.set_cons_zero, List.set_cons_succ]
                  refine take_at (i := 12) (d := some 88) (v := undef) rfl rfl (by kernel_rfl) (by kernel_rfl) (by kernel_rfl) (fun _ _ _ h => h) (Or.inr ⟨by rfl, rfl⟩) (by assumption) ?_
                  simp only [Act.put, List.setIfInBounds_toArray, List.set_cons_zero, List.set_cons_succ]
                  refine take_at (i := 13) (d := some 89) (v := undef) rfl rfl (by kernel_rfl) (by kernel_rfl) (by kernel_rfl) (fun _ _ _ h => h) (Or.inr ⟨by rfl, rfl⟩) (by assumption) ?_
                  simp only [Act.put, List.setIfInBounds_toArray, List.set_cons_zero, List.set_cons_succ]
                  refine take_at (i := 14) (d := some 90) (v := undef) rfl rfl (by kernel_rfl) (by kernel_rfl) (by kernel_rfl) (fun _ _ _ h => h) (Or.inr ⟨by rfl, rfl⟩) (by assumption) ?_
                  simp only [Act.put, List.setIfInBounds_toArray, List.set_cons_zero, List.set_cons_succ]
                  refine take_at (i := 15) (d := some 91) (v := undef) rfl rfl (by kernel_rfl) (by kernel_rfl) (by kernel_rfl) (fun _ _ _ h => h) (Or.inr ⟨by rfl, rfl⟩) (by assumption) ?_
                  simp only [Act.put, List.setIfInBounds_toArray, List.set_cons_zero, List.set_cons_succ]
                  refine take_at (i := 16) (d := some 92) (v := undef) rfl rfl (by kernel_rfl) (by kernel_rfl) (by kernel_rfl) (fun _ _ _ h => h) (Or.inr ⟨by rfl, rfl⟩) (by assumption) ?_
                  simp only [Act.put, List.setIfInBounds_toArray, List.set_cons_zero, List.set_cons_succ]
                  refine take_at (i := 17) (d := some 93) (v := undef) rfl rfl (by kernel_rfl) (by kernel_rfl) (by kernel_rfl) (fun _ _ _ h => h) (Or.inr ⟨by rfl, rfl⟩) (by assumption) ?_
                  simp only [Act.put, List.setIfInBounds_toArray, List.set_cons_zero, List.set_cons_succ]
                  refine take_at (i := 18) (d := some 94) (v := ?_) rfl rfl (by kernel_rfl) (by kernel_rfl) (by kernel_rfl) (fun _ _ _ h => h) (Or.inl ⟨by rfl, ?hyp18⟩) (by assumption) ?restp18
                  case hyp18 => (intro w hSw; (try dsimp only at hSw); go_simp; try with_reducible rfl)
                  simp only [Act.put, List.setIfInBounds_toArray, List.set_cons_zero, List.set_cons_succ]
                  refine wpAnyH_done (by kernel_rfl) ?_ _
                  go_wp2_with fail
                  go_meet
                  exact ⟨rfl, ext_drew hB⟩
              case rest =>
                clear hB hG hU
                obtain ⟨rfl, hB⟩ := hcut
                go_wp2_with fail
                go_roundw
                case rel => exact ⟨k + 1, hlt, by go_num, by rw [N1.out], by rw [N2.out], hB, hall'⟩
                case measure => simp [intOf]; omega
      · have e1 : decide (a ≤ b) = false := decide_eq_false hr
        rw [e1] at CR
        clear e1 hr
        go_wp2_with fail
        refine (CR.out _).mono ?_; rintro e w2 ⟨rfl, h⟩
        replace hB := ext_step hB h; clear h c1 c2
        go_wp2_with fail
        go_ret
        exact ⟨rfl, hB⟩
    · obtain rfl : k = gs.length := by omega
      rw [List.take_length]
      have har : Hid (allRight gs = true) := Lib.hid (allRight_all hall.out)
      clear hall hlt hk
      generalize hme : meetI gs = me at CM
      generalize hhu : hullI gs = hu at CH
      obtain ⟨m1, m2, m3⟩ := me
      obtain ⟨p1, p2, p3⟩ := hu
      dsimp only at CM CH
      replace HMP := Lib.hid (HMP.out m1 m2 m3 har.out hme)
      replace HHP := Lib.hid (HHP.out p1 p2 p3 har.out hhu)
      clear hme hhu
      generalize eachB gs x = eb at *
      generalize someB gs x = sb at *
      go_wp2_with fail
      refine (CM.out _ ((HL.out.below hB).more hB.size)).mono ?_; rintro e w2 ⟨rfl, h⟩
      replace hB := ext_alloc (ext_step hB h) (.cells #[.int .i64 m1, .int .i64 m2] 23); clear h
      have hM := At2.new w2 (.int .i64 m1) (.int .i64 m2) 23
      generalize hgM : w2.heap.size = gM at hM
      go_wp2_with fail
      generalize w2.alloc (.cells #[.int .i64 m1, .int .i64 m2] 23) = W2 at *
      refine (CH.out _ ((HL.out.below hB).more hB.size)).mono ?_; rintro e w3 ⟨rfl, h⟩
      replace hM := (hM.below h).alloc (.cells #[.int .i64 p1, .int .i64 p2] 23)
      replace hB := ext_alloc (ext_step hB h) (.cells #[.int .i64 p1, .int .i64 p2] 23); clear h
      have hH := At2.new w3 (.int .i64 p1) (.int .i64 p2) 23
      generalize hgH : w3.heap.size = gH at hH
      go_upto_region 22 with fail
      generalize w3.alloc (.cells #[.int .i64 p1, .int .i64 p2] 23) = W3 at *
      clear CM CH
      have CX := Lib.hid (HG.out.has m1 m2 x)
      have CY := Lib.hid (HG.out.has p1 p2 x)
      change Hid (∀ w, Calls Try.prog 17 #[gapV m1 m2, .int .i64 x] w fun e w' => e = .returned (.bool (hasB m1 m2 x)) ∧ Below w.heap.size w w') at CX
      change Hid (∀ w, Calls Try.prog 17 #[gapV p1 p2, .int .i64 x] w fun e w' => e = .returned (.bool (hasB p1 p2 x)) ∧ Below w.heap.size w w') at CY
      go_cut [126] (fun u wx => u = .bool false ∧ At2 wx gM (.int .i64 m1) (.int .i64 m2) ∧ At2 wx gH (.int .i64 p1) (.int .i64 p2) ∧ Below w.heap.size w wx)
      case first =>
        by_cases h3 : m3 = 0
        · rw [(HMP.out.1 h3).1] at CX
          subst h3
          obtain ⟨k0, k1, -, -⟩ := id hM
          cases sb
          · clear HMP HHP CY
            go_wp2_with fail
            refine (CX.out _).mono ?_; rintro e w4 ⟨rfl, h⟩
            clear k0 k1
            go_wp2_with fail
            go_meet
            exact ⟨rfl, hM.below h, hH.below h, ext_step hB h⟩
          · obtain ⟨h4, h5⟩ := HHP.out.1 rfl
            rw [h5] at CY
            subst h4
            clear HMP HHP h5
            go_wp2_with fail
            refine (CX.out _).mono ?_; rintro e w4 ⟨rfl, h⟩
            clear k0 k1
            replace hM := hM.below h
            replace hH := hH.below h
            replace hB := ext_step hB h
            obtain ⟨k0, k1, -, -⟩ := id hH
            go_wp2_with fail
            refine (CY.out _).mono ?_; rintro e w5 ⟨rfl, h⟩
            clear k0 k1
            go_wp2_with fail
            go_meet
            exact ⟨rfl, hM.below h, hH.below h, ext_step hB h⟩
        · have h4 := HMP.out.2 h3
          subst h4
          have e3 : (m3 == 0) = false := by simpa using h3
          clear h3
          cases sb
          · clear HMP HHP CX CY
            go_wp2_with fail
            go_meet
            exact ⟨rfl, hM, hH, hB⟩
          · obtain ⟨h4, h5⟩ := HHP.out.1 rfl
            rw [h5] at CY
            subst h4
            clear HMP HHP h5 CX
            obtain ⟨k0, k1, -, -⟩ := id hH
            go_wp2_with fail
            refine (CY.out _).mono ?_; rintro e w5 ⟨rfl, h⟩
            clear k0 k1
            go_wp2_with fail
            go_meet
            exact ⟨rfl, hM.below h, hH.below h, ext_step hB h⟩
      case rest =>
        clear hM hH hB CX CY
        obtain ⟨rfl, hM, hH, hB⟩ := hcut
        have HB := Lib.hid hB
        clear hB
        go_wp2_with fail
        go_loopw [17] (fun i wr => ∃ k : Nat, k ≤ gs.length ∧ i = .int .i64 k ∧ Below wc.heap.size wc wr) (fun i _ => gs.length - (intOf i).toNat)
        case atStart => exact ⟨0, Nat.zero_le _, rfl, Below.refl _ _⟩
        case round =>
          obtain ⟨k, hk, rfl, hB⟩ := hrel
          rename_i wr2 _ _
          by_cases hlt : k < gs.length
          · obtain ⟨ad, rfl, hb, hcell⟩ := HL.out.at_ (by omega)
            have HC : Hid (∀ W', Below w.heap.size w W' → W'.cell? (ad.add (k * 2)) = some (.int .i64 gs[k].1) ∧ W'.cell? ⟨(ad.add (k * 2)).block, (ad.add (k * 2)).off + 1, none⟩ = some (.int .i64 gs[k].2)) := Lib.hid fun W' h' => by
              have c1 : _ = _ := (h'.cell (by rw [block_of_add]; exact hb)).trans (hcell k hlt).1
              have c2 : _ = _ := (h'.cell (by rw [block_of_add]; exact hb)).trans (hcell k hlt).2
              rw [add_succ] at c2
              exact ⟨c1, c2⟩
            have HP := Lib.hid (HHP.out.2 k hlt)
            have HQ := Lib.hid fun (h : m3 = 0) => (HMP.out.1 h).2.2 k hlt
            have HR := Lib.hid (allRight_at har.out hlt)
            clear hcell hb
            generalize gs[k].1 = a at *
            generalize gs[k].2 = b at *
            replace hM := hM.below hB
            replace hH := hH.below hB
            have hW := ext_step HB.out hB
            have i0 : (0 : Int) ≤ (k : Int) := by omega
            have i1 : (k : Int) < (gs.length : Int) := by omega
            have CI := Lib.hid (HG.out.within a b p1 p2)
            rw [decide_eq_true (by have := HP.out; have := HR.out; omega)] at CI
            go_upto_region 27 with fail
            go_cut [152] (fun u wx => u = .bool false ∧ Below wc.heap.size wc wx)
            case first =>
              by_cases h3 : m3 = 0
              · have CJ := Lib.hid (HG.out.within m1 m2 a b)
                rw [decide_eq_true (by have := (HMP.out.1 h3).2.1; have := HQ.out h3; omega)] at CJ
                subst h3
                go_region_held3 (fun w' => w'.cell? (ad.add (k * 2)) = some (.int .i64 a) ∧ w'.cell? ⟨(ad.add (k * 2)).block, (ad.add (k * 2)).off + 1, none⟩ = some (.int .i64 b) ∧ w'.cell? ⟨gM, 0, none⟩ = some (.int .i64 m1) ∧ w'.cell? ⟨gM, 1, none⟩ = some (.int .i64 m2) ∧ w'.cell? ⟨gH, 0, none⟩ = some (.int .i64 p1) ∧ w'.cell? ⟨gH, 1, none⟩ = some (.int .i64 p2)) (exact ⟨(HC.out _ hW).1, (HC.out _ hW).2, hM.c0, hM.c1, hH.c0, hH.c1⟩)
                  (first
                    | (go_at_call_of 18 p1; refine (CI.out _).mono ?_; rintro e v0 ⟨rfl, hq⟩; have hM := hM.below ⟨hq.os, hq.tape, hq.output, hq.size, hq.block⟩; have hH := hH.below ⟨hq.os, hq.tape, hq.output, hq.size, hq.block⟩; have hW := ext_step hW ⟨hq.os, hq.tape, hq.output, hq.size, hq.block⟩; have hB := ext_step hB ⟨hq.os, hq.tape, hq.output, hq.size, hq.block⟩; clear hq)
                    | (go_at_call_of 18 m1; refine (CJ.out _).mono ?_; rintro e v1 ⟨rfl, hq⟩; have hM := hM.below ⟨hq.os, hq.tape, hq.output, hq.size, hq.block⟩; have hH := hH.below ⟨hq.os, hq.tape, hq.output, hq.size, hq.block⟩; have hW := ext_step hW ⟨hq.os, hq.tape, hq.output, hq.size, hq.block⟩; have hB := ext_step hB ⟨hq.os, hq.tape, hq.output, hq.size, hq.block⟩; clear hq))
                all_goals
                  go_wp2_with fail
                  go_meet
                  exact ⟨rfl, hB⟩
              · have e3 : (m3 == 0) = false := by simpa using h3
                clear h3
                refine wp_region_held_drew (S := fun w' => w'.cell? (ad.add (k * 2)) = some (.int .i64 a) ∧ w'.cell? ⟨(ad.add (k * 2)).block, (ad.add (k * 2)).off + 1, none⟩ = some (.int .i64 b) ∧ w'.cell? ⟨gH, 0, none⟩ = some (.int .i64 p1) ∧ w'.cell? ⟨gH, 1, none⟩ = some (.int .i64 p2)) (by kernel_rfl) ?_ (fun hHeld => ?_)
                · exact ⟨(HC.out _ hW).1, (HC.out _ hW).2, hH.c0, hH.c1⟩
                refine take_at (i := 0) (d := some 133) (v := ?_) rfl rfl (by kernel_rfl) (by kernel_rfl) (by kernel_rfl) (fun _ _ _ h => h) (Or.inl ⟨by rfl, ?hyq0⟩) (by assumption) ?restq0
                case hyq0 => (intro w hSw; (try dsimp only at hSw); go_simp; try with_reducible rfl)
                simp only [Act.put, List.setIfInBounds_toArray, List.set_cons_zero, List.set_cons_succ]
                refine take_at (i := 1) (d := some 134) (v := ?_) rfl rfl (by kernel_rfl) (by kernel_rfl) (by kernel_rfl) (fun _ _ _ h => h) (Or.inl ⟨by rfl, ?hyq1⟩) (by assumption) ?restq1
                case hyq1 => (intro w hSw; (try dsimp only at hSw); go_simp; try with_reducible rfl)
                simp only [Act.put, List.setIfInBounds_toArray, List.set_cons_zero, List.set_cons_succ]
                refine take_at (i := 2) (d := some 135) (v := ?_) rfl rfl (by kernel_rfl) (by kernel_rfl) (by kernel_rfl) (fun _ _ _ h => h) (Or.inl ⟨by rfl, ?hyq2⟩) (by assumption) ?restq2
                case hyq2 => (intro w hSw; (try dsimp only at hSw); go_simp; try with_reducible rfl)
                simp only [Act.put, List.setIfInBounds_toArray, List.set_cons_zero, List.set_cons_succ]
                refine take_at (i := 3) (d := some 136) (v := ?_) rfl rfl (by kernel_rfl) (by kernel_rfl) (by kernel_rfl) (fun _ _ _ h => h) (Or.inl ⟨by rfl, ?hyq3⟩) (by assumption) ?restq3
                case hyq3 => (intro w hSw; (try dsimp only at hSw); go_simp; try with_reducible rfl)
                simp only [Act.put, List.setIfInBounds_toArray, List.set_cons_zero, List.set_cons_succ]
                refine take_at (i := 4) (d := some 137) (v := ?_) rfl rfl (by kernel_rfl) (by kernel_rfl) (by kernel_rfl) (fun _ _ _ h => h) (Or.inl ⟨by rfl, ?hyq4⟩) (by assumption) ?restq4
                case hyq4 => (intro w hSw; (try dsimp only at hSw); go_simp; try with_reducible rfl)
                simp only [Act.put, List.setIfInBounds_toArray, List.set_cons_zero, List.set_cons_succ]
                refine wpAnyH_ready (rs := [5]) (by kernel_rfl) (by simp) ?_
                refine AllReadyH.cons rfl (fun K hK => ?_) AllReadyH.nil
                go_simp
                go_at_call 18; refine (CI.out _).mono ?_; rintro e v0 ⟨rfl, hq⟩; have hH := hH.below ⟨hq.os, hq.tape, hq.output, hq.size, hq.block⟩; have hW := ext_step hW ⟨hq.os, hq.tape, hq.output, hq.size, hq.block⟩; have hB := ext_step hB ⟨hq.os, hq.tape, hq.output, hq.size, hq.block⟩; clear hq
                try go_wp2_with fail
                refine hK.out _ _ ?_ (fun hHeld => ?_)
                · exact ⟨(HC.out _ hW).1, (HC.out _ hW).2, hH.c0, hH.c1⟩
                clear hK K
                refine take_at (i := 6) (d := some 139) (v := ?_) rfl rfl (by kernel_rfl) (by kernel_rfl) (by kernel_rfl) (fun _ _ _ h => h) (Or.inl ⟨by rfl, ?hyq6⟩) (by assumption) ?restq6
                case hyq6 => (intro w hSw; (try dsimp only at hSw); go_simp; try with_reducible rfl)
                simp only [Act.put, List.setIfInBounds_toArray, List.set_cons_zero, List.set_cons_succ]
                refine take_at (i := 7) (d := some 140) (v := ?_) rfl rfl (by kernel_rfl) (by kernel_rfl) (by kernel_rfl) (fun _ _ _ h => h) (Or.inl ⟨by rfl, ?hyq7⟩) (by assumption) ?restq7
                case hyq7 => (intro w hSw; (try dsimp only at hSw); go_simp; try with_reducible rfl)
                simp only [Act.put, List.setIfInBounds_toArray, List.set_cons_zero, List.set_cons_succ]
                refine take_at (i := 8) (d := some 141) (v := ?_) rfl rfl (by kernel_rfl) (by kernel_rfl) (by kernel_rfl) (fun _ _ _ h => h) (Or.inl ⟨by rfl, ?hyq8⟩) (by assumption) ?restq8
                case hyq8 => (intro w hSw; (try dsimp only at hSw); go_simp; try with_reducible rfl)
                simp only [Act.put, List.setIfInBounds_toArray, List.set_cons_zero, List.set_cons_succ]
                refine take_at (i := 9) (d := some 142) (v := ?_) rfl rfl (by kernel_rfl) (by kernel_rfl) (by kernel_rfl) (fun _ _ _ h => h) (Or.inl ⟨by rfl, ?hyq9⟩) (by assumption) ?restq9
                case hyq9 => (intro w hSw; (try dsimp only at hSw); go_simp; try with_reducible rfl)
                simp only [Act.put, List.setIfInBounds_toArray, List.set_cons_zero, List.set_cons_succ]
                refine take_at (i := 10) (d := some 143) (v := ?_) rfl rfl (by kernel_rfl) (by kernel_rfl) (by kernel_rfl) (fun _ _ _ h => h) (Or.inl ⟨by rfl, ?hyq10⟩) (by assumption) ?restq10
                case hyq10 => (intro w hSw; (try dsimp only at hSw); go_simp; try with_reducible rfl)
                simp only [Act.put, List.setIfInBounds_toArray, List.set_cons_zero, List.set_cons_succ]
                refine take_at (i := 11) (d := some 144) (v := undef) rfl rfl (by kernel_rfl) (by kernel_rfl) (by kernel_rfl) (fun _ _ _ h => h) (Or.inr ⟨by rfl, rfl⟩) (by assumption) ?_
                simp only [Act.put, List.setIfInBounds_toArray, List.set_cons_zero, List.set_cons_succ]
                refine take_at (i := 12) (d := some 145) (v := undef) rfl rfl (by kernel_rfl) (by kernel_rfl) (by kernel_rfl) (fun _ _ _ h => h) (Or.inr ⟨by rfl, rfl⟩) (by assumption) ?_
                simp only [Act.put, List.setIfInBounds_toArray, List.set_cons_zero, List.set_cons_succ]
                refine take_at (i := 13) (d := some 146) (v := undef) rfl rfl (by kernel_rfl) (by kernel_rfl) (by kernel_rfl) (fun _ _ _ h => h) (Or.inr ⟨by rfl, rfl⟩) (by assumption) ?_
                simp only [Act.put, List.setIfInBounds_toArray, List.set_cons_zero, List.set_cons_succ]
                refine take_at (i := 14) (d := some 147) (v := undef) rfl rfl (by kernel_rfl) (by kernel_rfl) (by kernel_rfl) (fun _ _ _ h => h) (Or.inr ⟨by rfl, rfl⟩) (by assumption) ?_
                simp only [Act.put, List.setIfInBounds_toArray, List.set_cons_zero, List.set_cons_succ]
                refine take_at (i := 15) (d := some 148) (v := undef) rfl rfl (by kernel_rfl) (by kernel_rfl) (by kernel_rfl) (fun _ _ _ h => h) (Or.inr ⟨by rfl, rfl⟩) (by assumption) ?_
                simp only [Act.put, List.setIfInBounds_toArray, List.set_cons_zero, List.set_cons_succ]
                refine take_at (i := 16) (d := some 149) (v := undef) rfl rfl (by kernel_rfl) (by kernel_rfl) (by kernel_rfl) (fun _ _ _ h => h) (Or.inr ⟨by rfl, rfl⟩) (by assumption) ?_
                simp only [Act.put, List.setIfInBounds_toArray, List.set_cons_zero, List.set_cons_succ]
                refine take_at (i := 17) (d := some 150) (v := undef) rfl rfl (by kernel_rfl) (by kernel_rfl) (by kernel_rfl) (fun _ _ _ h => h) (Or.inr ⟨by rfl, rfl⟩) (by assumption) ?_
                simp only [Act.put, List.setIfInBounds_toArray, List.set_cons_zero, List.set_cons_succ]
                refine take_at (i := 18) (d := some 151) (v := ?_) rfl rfl (by kernel_rfl) (by kernel_rfl) (by kernel_rfl) (fun _ _ _ h => h) (Or.inl ⟨by rfl, ?hyq18⟩) (by assumption) ?restq18
                case hyq18 => (intro w hSw; (try dsimp only at hSw); go_simp; try with_reducible rfl)
                simp only [Act.put, List.setIfInBounds_toArray, List.set_cons_zero, List.set_cons_succ]
                refine take_at (i := 19) (d := some 152) (v := ?_) rfl rfl (by kernel_rfl) (by kernel_rfl) (by kernel_rfl) (fun _ _ _ h => h) (Or.inl ⟨by rfl, ?hyq19⟩) (by assumption) ?restq19
                case hyq19 => (intro w hSw; (try dsimp only at hSw); go_simp; try with_reducible rfl)
                simp only [Act.put, List.setIfInBounds_toArray, List.set_cons_zero, List.set_cons_succ]
                refine wpAnyH_done (by kernel_rfl) ?_ _
                go_wp2_with fail
                go_meet
                exact ⟨rfl, hB⟩
            case rest =>
              clear hB hM hH hW
              obtain ⟨rfl, hB⟩ := hcut
              go_wp2_with fail
              go_roundw
              case rel => exact ⟨k + 1, hlt, by go_num, hB⟩
              case measure => simp [intOf]; omega
          · go_wp2_with fail
            go_ret
            exact ⟨rfl, ext_step HB.out hB⟩
end Go.Proofs.Ythkeofpmappdhaa
