/- Package drift: a list of points copied and sorted by the library; the comparison, walked. -/
import Derived.Test.YtljgfallhnlebaaSortL
import Derived.Test.YtljgfallhnlebaaCmpW
import Derived.Test.YtljgfallhnlebaaDrfA
import Derived.Lib.SliceRun
namespace Go.Proofs.Ytljgfallhnlebaa
open Go.RowKit

/-! the copy -/
theorem pt_info : (Try.prog.info? 36).map (fun i => (i.zero, i.size, i.bytes)) = some (some (.agg #[.int .i64 0, .int .i64 0]), 2, 16) := by kernel_rfl
theorem pt_parts : ∃ i0, Try.prog.info? 36 = some i0 ∧ i0.zero = some (.agg #[.int .i64 0, .int .i64 0]) ∧ i0.size = 2 ∧ i0.bytes = 16 := by
  have h := pt_info
  cases e : Try.prog.info? 36 with
  | none => rw [e] at h; cases h
  | some i0 =>
    rw [e] at h
    simp only [Option.map_some, Option.some.injEq, Prod.mk.injEq] at h
    exact ⟨i0, rfl, h.1, h.2.1, h.2.2⟩
theorem OwnG.nil (t : TypeId) (w : World) (B : Nat) : OwnG t w B (.slice none 0 0) [] := World.ownsRow_nil w B t 2

set_option maxRecDepth 100000 in
set_option maxHeartbeats 1000000 in
theorem clonePts_any (v : Value) (gs : List (Int × Int)) (w : World) (hv : Gaps w w.heap.size v gs) (hn : gs.length ≤ 1000000) :
    Calls Try.prog 38 #[v] w fun e w' => ∃ u, e = .returned u ∧ OwnG 36 w' w.heap.size u gs ∧ Below w.heap.size w w' := by
  obtain ⟨i0, hi, hz0, hz1, hz2⟩ := pt_parts
  have q : ∀ (w : World) (a : Option Addr) (n c n' c' : Nat), (binOp .eql 28 (.slice a n c) (.slice none n' c')).run Try.prog w = .ok (.bool a.isNone) w := fun w a n c n' c' => Lib.run_eql_slice_nil w _ _ a n c n' c' Try.underlying28
  have HV := Lib.hid hv
  obtain ⟨A, c, rfl, hc, hr⟩ := hv
  rcases A with _ | ad
  · have h0 : gs = [] := by
      rcases Nat.eq_zero_or_pos gs.length with k | k
      · exact List.eq_nil_of_length_eq_zero k
      · obtain ⟨_, e, _⟩ := hr k; cases e
    subst h0
    clear hr HV
    go_enter Try.func38, Try.ntmps38
    go_wp2
    go_ret
    exact ⟨_, rfl, OwnG.nil _ _ _, Below.refl _ _⟩
  · have HS := Lib.hid (HV.out.src (w' := w.alloc (.cells #[] 36)) fun p hp => (below_new w (.cells #[] 36)).cell hp)
    have HO := Lib.hid (OwnG.empty 36 w)
    have HN := Lib.hid hn
    clear hr HV hn
    go_enter Try.func38, Try.ntmps38
    go_wp2_with (at_builtin; go_must (refine wpList_append_cells _ rfl (.tmp 5) (.tmp 6) 28 rfl w.heap.size 36 i0 (.agg #[.int .i64 0, .int .i64 0]) 2 16 Try.underlying28 hi hz0 hz1 hz2 rfl (by decide) _ 0 [] rfl (by exact HO.out) (some ad) gs.length c (cellsG gs) rfl (cellsG_length gs) (by exact HS.out) (cellsG_one _) (by have := HN.out; unfold maxLen; omega) (by have := HN.out; omega) (by simp) ?_); intro v2 w2 hown2 hgrow2)
    go_ret
    obtain ⟨hG, hB⟩ := own_made (n := gs.length) rfl (Below.refl _ _) hown2 hgrow2
    exact ⟨v2, rfl, by unfold OwnG; simpa using hown2, hB⟩

/-! the comparison -/
def cfP (p q : Int × Int) : Int := orI (ordI p.1 q.1) (ordI p.2 q.2)
theorem ltP (p q : Int × Int) : ltOf cfP p q = lexB p q := by
  unfold ltOf cfP lexB
  rw [decide_eq_decide]
  rcases Int.lt_trichotomy p.1 q.1 with h | h | h
  · rw [ordI_lt h, show orI (-1) (ordI p.2 q.2) = -1 from rfl]; omega
  · rw [h, ordI_eq, show orI 0 (ordI p.2 q.2) = ordI p.2 q.2 from rfl]
    unfold ordI
    split
    · omega
    · split <;> omega
  · rw [ordI_gt h, show orI 1 (ordI p.2 q.2) = 1 from rfl]; omega
theorem swoP : Sort.SWO (ltOf cfP) where
  irrefl p := by rw [ltP]; unfold lexB; rw [decide_eq_false_iff_not]; omega
  trans p q r h1 h2 := by
    rw [ltP] at *
    unfold lexB at *
    rw [decide_eq_true_iff] at *
    omega
  ntrans p q r h1 h2 := by
    rw [ltP] at *
    unfold lexB at *
    rw [decide_eq_false_iff_not] at *
    omega

set_option maxRecDepth 100000 in
set_option maxHeartbeats 400000 in
theorem cmpPts_any (a b c d : Int) (w : World) :
    Calls Try.prog 40 #[.agg #[.int .i64 a, .int .i64 b], .agg #[.int .i64 c, .int .i64 d]] w fun e w' => e = .returned (.int .i64 (cfP (a, b) (c, d))) ∧ ∃ q os, w' = Sort.grow (w.drewN q) os := by
  have E : Hid (orI (ordI a c) (ordI b d) = cfP (a, b) (c, d)) := Lib.hid rfl
  have CT := Lib.hid (cmpL_any a c)
  have CC := Lib.hid (cmpL_any b d)
  have A0 := (At2.new w (.int .i64 a) (.int .i64 b) 36).alloc (.cells #[.int .i64 c, .int .i64 d] 36)
  have B0 := At2.new (w.alloc (.cells #[.int .i64 a, .int .i64 b] 36)) (.int .i64 c) (.int .i64 d) 36
  rw [World.size_alloc] at B0
  have HW : Hid (∃ os, (w.alloc (.cells #[.int .i64 a, .int .i64 b] 36)).alloc (.cells #[.int .i64 c, .int .i64 d] 36) = Sort.grow w os) := Lib.hid ⟨_, by rw [Sort.alloc_eq_grow, Sort.alloc_eq_grow, Sort.grow_grow]⟩
  go_enter Try.func40, Try.ntmps40
  go_upto_region 1 with fail
  change Code.wp _ _ _ _ ((w.alloc (.cells #[.int .i64 a, .int .i64 b] 36)).alloc (.cells #[.int .i64 c, .int .i64 d] 36))
  generalize (w.alloc (.cells #[.int .i64 a, .int .i64 b] 36)).alloc (.cells #[.int .i64 c, .int .i64 d] 36) = W at *
  generalize ordI a c = u at *
  generalize ordI b d = v at *
  go_region_held3 (fun w' => w'.cell? ⟨w.heap.size, 0, none⟩ = some (.int .i64 a) ∧ w'.cell? ⟨w.heap.size, 1, none⟩ = some (.int .i64 b) ∧ w'.cell? ⟨w.heap.size + 1, 0, none⟩ = some (.int .i64 c) ∧ w'.cell? ⟨w.heap.size + 1, 1, none⟩ = some (.int .i64 d))
    ((first | exact ⟨A0.c0, A0.c1, B0.c0, B0.c1⟩ | exact ⟨(A0.alloc _).c0, (A0.alloc _).c1, (B0.alloc _).c0, (B0.alloc _).c1⟩))
    (first
      | (go_at_call_of 42 a; refine (CT.out _).mono ?_; rintro e w1 ⟨rfl, rfl⟩)
      | (go_at_call_of 42 b; refine (CC.out _).mono ?_; rintro e w2 ⟨rfl, rfl⟩)
      | (go_at_call 41; refine (or_any u v _ _ (by simp [World.cell?_alloc_new]) (by simp [World.cell?_alloc_new])).mono ?_; rintro e w3 ⟨rfl, rfl⟩))
  all_goals
    go_wp2_with fail
    go_ret
    obtain ⟨os, hos⟩ := HW.out
    exact ⟨ret_one E.out, 1, os.push _, by rw [hos, Sort.alloc_eq_grow, Sort.grow_grow, Array.append_singleton]; rfl⟩

/-! the sort -/
def encP (x : Int × Int) : List Value := [.int .i64 x.1, .int .i64 x.2]
theorem flat_at (d : Array (Int × Int)) (j : Nat) (h : j < d.size * 2) : (Sort.flatK encP 2 d)[j]! = if j % 2 = 0 then .int .i64 (d[j / 2]!).1 else .int .i64 (d[j / 2]!).2 := by
  rw [Sort.get_flatK _ _ _ _ h]
  unfold encP
  rcases (show j % 2 = 0 ∨ j % 2 = 1 by omega) with e | e <;> rw [e] <;> rfl
theorem getD_at (d : Array (Int × Int)) (i : Nat) (h : i < d.size) : d.toList.getD i (0, 0) = d[i]! := by
  rw [List.getD_eq_getElem?_getD, List.getElem?_eq_getElem (by simpa using h), getElem!_pos d i h]; rfl
theorem held_pts {t : TypeId} {w : World} {B g cap : Nat} {gs : List (Int × Int)} (h : OwnG t w B (.slice (some ⟨g, 0, none⟩) gs.length cap) gs) : Sort.HoldsK encP 2 w g 0 gs.toArray := by
  intro j hj
  have hj' : j < gs.length * 2 := by simpa using hj
  have hs : gs.toArray.size = gs.length := by simp
  have e := flat_at gs.toArray j (by rw [hs]; exact hj')
  have hi : j / 2 < gs.length := by omega
  obtain ⟨k1, k2⟩ := cellsG_at gs (j / 2) hi
  have g1 : gs.toArray[j / 2]! = gs[j / 2] := by rw [getElem!_pos _ _ (by rw [hs]; exact hi)]; simp
  rw [g1] at e
  refine ⟨?_, by rw [Nat.zero_add]; exact World.ownsRow.frozenAt h j⟩
  rw [Nat.zero_add, World.ownsRow.cellAt h j hj']
  rcases (show j % 2 = 0 ∨ j % 2 = 1 by omega) with e0 | e0
  · rw [if_pos e0] at e
    rw [show id (Sort.flatK encP 2 gs.toArray)[j]! = _ from e]
    have k3 := k1
    rw [show j / 2 * 2 = j by omega] at k3
    exact k3
  · rw [if_neg (by omega)] at e
    rw [show id (Sort.flatK encP 2 gs.toArray)[j]! = _ from e]
    have k3 := k2
    rw [show j / 2 * 2 + 1 = j by omega] at k3
    exact k3
theorem gaps_held {w : World} {g cap : Nat} {d : Array (Int × Int)} (h : Sort.HoldsK encP 2 w g 0 d) (hg : g < w.heap.size) (hc : d.size ≤ cap) : Gaps w w.heap.size (.slice (some ⟨g, 0, none⟩) d.size cap) d.toList := by
  have ea : ∀ j, (Addr.mk g 0 none).add j = ⟨g, j, none⟩ := fun j => by unfold Addr.add; split <;> simp_all
  refine ⟨some ⟨g, 0, none⟩, cap, by simp, by simpa using hc, fun _ => ⟨_, rfl, hg, fun j hj => ?_⟩⟩
  have hj' : j < d.size := by simpa using hj
  have g1 : d[j]! = d.toList[j] := by rw [getElem!_pos d j hj']; simp
  rw [ea, ea]
  have h0 := (h (j * 2) (by simp; omega)).1
  have h1 := (h (j * 2 + 1) (by simp; omega)).1
  rw [Nat.zero_add] at h0 h1
  rw [h0, h1, show id (Sort.flatK encP 2 d)[j * 2]! = _ from flat_at d (j * 2) (by omega), show id (Sort.flatK encP 2 d)[j * 2 + 1]! = _ from flat_at d (j * 2 + 1) (by omega), if_pos (by omega), if_neg (by omega), show j * 2 / 2 = j by omega, show (j * 2 + 1) / 2 = j by omega, g1]
  exact ⟨rfl, rfl⟩
theorem below_sorted (w : World) (B g m : Nat) (d : Array (Int × Int)) (os : Array Obj) (hB : B ≤ g) (hB2 : B ≤ w.heap.size) : Below B w (sortWorldK encP 2 w g 0 m d os) := by
  refine ⟨rfl, rfl, rfl, ?_, fun k hk => ?_⟩
  · exact size_sortWorldK_c encP 2 w g 0 m d os
  · unfold sortWorldK
    show ((w.heap.modify g _) ++ os)[k]? = w.heap[k]?
    rw [Array.getElem?_append]
    by_cases hs : k < w.heap.size
    · rw [if_pos (by simpa using hs), Array.getElem?_modify, if_neg (by omega)]
    · omega

set_option maxRecDepth 100000 in
set_option maxHeartbeats 1000000 in
theorem sortPts_any (u : Value) (gs : List (Int × Int)) (B : Nat) (w : World) (hO : OwnG 36 w B u gs) (hn : gs.length ≤ 1000000) (hB : B ≤ w.heap.size) :
    Calls Try.prog 39 #[u, .func (.func 40) #[] #[]] w fun e w' => e = .returned (.tuple #[]) ∧ ∃ hs, SortedG hs ∧ (∀ p, p ∈ gs ↔ p ∈ hs) ∧ hs.length = gs.length ∧ Gaps w' w'.heap.size u hs ∧ Below B w w' := by
  rcases id hO.2 with ⟨rfl, h0⟩ | ⟨g, cap, cur, rfl, hb, hh, hc, _⟩
  · have e : gs = [] := List.eq_nil_of_length_eq_zero h0
    subst e
    have hS := AnyF.slices_SortFunc_none (P := Try.prog) (ρ := Try.sortPts_ren) { Try.sortPts with } none 0 (.func (.func 40) #[] #[]) w
    refine Calls.mono hS ?_
    rintro e w' ⟨rfl, rfl⟩
    exact ⟨rfl, [], fun i j _ hj => absurd hj (by simp), fun _ => Iff.rfl, rfl, Gaps.nil _ _, Below.refl _ _⟩
  · have hg : g < w.heap.size := (World.ownsRow.lt hO g rfl).2
    have eg : ∀ args w, (callFunc 40 args).run Try.prog w = .ok (.enter 40 args) w := enters_of Try.func40 (by kernel_rfl) rfl
    have hS := AnyQ.slices_SortFunc Try.sortPts 2 Try.isAgg36 Try.sizeOf36 encP (fun _ => rfl) (fun x v hv => by simp [encP] at hv; rcases hv with rfl | rfl <;> rfl) cfP swoP 40 #[] g 0 cap gs.toArray w eg (fun m os dk _ x y => cmpPts_any x.1 x.2 y.1 y.2 _) (held_pts hO) hg (by simp; omega)
    have hs : gs.toArray.size = gs.length := by simp
    rw [hs] at hS
    refine Calls.mono hS ?_
    rintro e w' ⟨rfl, d', m, os, hp, hst, rfl⟩
    refine ⟨rfl, d'.toList, ?_, ?_, ?_, ?_, below_sorted w B g m d' os hb hB⟩
    · intro i j hij hj
      have hj' : j < gs.length := by have := hp.1; simp at hj this; omega
      have e1 := hst i j (Nat.zero_le _) hij hj'
      have hd : d'.size = gs.length := by have := hp.1; simpa using this
      rw [getD_at d' j (by omega), getD_at d' i (by omega), ← ltP]
      exact e1
    · have hd : d'.size = gs.length := by have := hp.1; simpa using this
      have h3 := hp.2.2
      rw [show d'.extract 0 gs.length = d' by rw [← hd]; simp, show gs.toArray.extract 0 gs.length = gs.toArray by simp] at h3
      intro p
      have := h3.mem_iff (a := p)
      simp at this
      simp [this]
    · have := hp.1; simpa using this
    · have hd : d'.size = gs.length := by have := hp.1; simpa using this
      have hH := holdsK_sortWorldK_c encP 2 w g 0 gs.toArray d' m os (held_pts hO) hg (by simpa using hd)
      have h := gaps_held (cap := cap) hH (Nat.lt_of_lt_of_le hg (size_sortWorldK_c encP 2 w g 0 m d' os)) (by omega)
      rwa [hd] at h
end Go.Proofs.Ytljgfallhnlebaa
