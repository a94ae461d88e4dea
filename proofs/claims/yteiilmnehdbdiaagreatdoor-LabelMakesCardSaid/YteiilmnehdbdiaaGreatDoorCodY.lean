/- Package code's reader, walked: New, upTo, Uint, Int, Count, Left, Err, End. -/
import Derived.Test.YteiilmnehdbdiaaGreatDoorCodX
import Derived.Test.YteiilmnehdbdiaaGreatDoorCodQ
namespace Go.Proofs.YteiilmnehdbdiaaGreatDoor
open Go.RowKit

/-- Block g holds a reader of these bytes in this state; it and its bytes lie in the blocks from L to U. -/
def Rd6 (w : World) (g L U : Nat) (bs : List Int) (e : Int) : Prop := ∃ v, At2 w g v (.int .i64 e) ∧ Lst w g .u8 v bs ∧ Above L v ∧ L ≤ g ∧ g < U ∧ U ≤ w.heap.size
section
variable {w w' w1 : World} {g L U : Nat} {bs : List Int} {e : Int}
theorem Rd6.keep (h : Rd6 w g L U bs e) (hs : w.heap.size ≤ w'.heap.size) (hk : ∀ k, L ≤ k → k < U → w'.heap[k]? = w.heap[k]?) : Rd6 w' g L U bs e := by
  obtain ⟨v, hA, hL, hv, h1, h2, h3⟩ := h
  have hg := hk g h1 h2
  refine ⟨v, ⟨?_, ?_, ?_, ?_⟩, ?_, hv, h1, h2, Nat.le_trans h3 hs⟩
  · exact (World.cell?_of_block (w := w) (a := ⟨g, 0, none⟩) hg).trans hA.c0
  · exact (World.cell?_of_block (w := w) (a := ⟨g, 1, none⟩) hg).trans hA.c1
  · exact (World.frozen?_of_block (w := w) (a := ⟨g, 0, none⟩) hg).trans hA.f0
  · exact (World.frozen?_of_block (w := w) (a := ⟨g, 1, none⟩) hg).trans hA.f1
  · obtain ⟨A, c, rfl, hc, hr⟩ := hL
    refine ⟨A, c, rfl, hc, fun hn => ?_⟩
    obtain ⟨ad, ea, hb, hcell⟩ := hr hn
    exact ⟨ad, ea, hb, fun j hj => (World.cell?_of_block (w := w) (a := ad.add j) (hk _ (by rw [block_of_add]; exact hv _ _ _ rfl ad ea) (by rw [block_of_add]; omega))).trans (hcell j hj)⟩
theorem Rd6.lt (h : Rd6 w g L U bs e) : L ≤ U ∧ U ≤ w.heap.size := by
  obtain ⟨v, _, _, _, h1, h2, h3⟩ := h
  exact ⟨by omega, h3⟩
theorem Rd6.wide (h : Rd6 w g L U bs e) (k : Aside g (g + 1) w w') : Aside L U w w' := by
  obtain ⟨v, _, _, _, h1, h2, h3⟩ := h
  exact ⟨k.os, k.tape, k.output, k.size, fun i hi ho => k.block i hi (by omega)⟩
theorem Rd6.put0 {A : Option Addr} {n c m : Nat} (hA : At2 w g (.slice A n c) (.int .i64 0)) (hL : Lst w g .u8 (.slice A n c) bs) (hv : Above L (.slice A n c)) (h1 : L ≤ g) (h2 : g < U) (h3 : U ≤ w.heap.size) (hm : m ≤ bs.length) (u : Value)
    (hu : (c = m ∧ u = .slice A (n - m) (c - m)) ∨ (c ≠ m ∧ ∃ ad, A = some ad ∧ u = .slice (some (ad.add m)) (n - m) (c - m))) :
    Rd6 (w.setCell ⟨g, 0, none⟩ u) g L U (bs.drop m) 0 ∧ Aside g (g + 1) w (w.setCell ⟨g, 0, none⟩ u) :=
  ⟨⟨u, hA.set0 u, (hL.tail_ hm u hu).below ((Below.refl g w).setCell (Nat.le_refl _) u), hv.cut u hu, h1, h2, by rw [World.size_setCell]; exact h3⟩, (Aside.refl g (g + 1) w).put (p := ⟨g, 0, none⟩) (Nat.le_refl _) (Nat.lt_succ_self _) u⟩
theorem Rd6.put1 (h : Rd6 w g L U bs e) (e' : Int) : Rd6 (w.setCell ⟨g, 1, none⟩ (.int .i64 e')) g L U bs e' ∧ Aside g (g + 1) w (w.setCell ⟨g, 1, none⟩ (.int .i64 e')) := by
  obtain ⟨v, hA, hL, hv, h1, h2, h3⟩ := h
  exact ⟨⟨v, hA.set1 _, hL.below ((Below.refl g w).setCell (Nat.le_refl _) _), hv, h1, h2, by rw [World.size_setCell]; exact h3⟩, (Aside.refl g (g + 1) w).put (p := ⟨g, 1, none⟩) (Nat.le_refl _) (Nat.lt_succ_self _) _⟩
theorem Rd6.took {A : Option Addr} {n c m : Nat} {x V : Int} {st : Int × List Int × Int} (hst : st = (x, bs.drop m, 0)) (hA : At2 w g (.slice A n c) (.int .i64 0)) (hL : Lst w g .u8 (.slice A n c) bs) (hv : Above L (.slice A n c)) (h1 : L ≤ g) (h2 : g < U) (h3 : U ≤ w.heap.size) (hm : m ≤ bs.length) (hV : V = x) (u : Value)
    (hu : (c = m ∧ u = .slice A (n - m) (c - m)) ∨ (c ≠ m ∧ ∃ ad, A = some ad ∧ u = .slice (some (ad.add m)) (n - m) (c - m))) :
    Ending.returned (.int .u64 V) = .returned (.int .u64 st.1) ∧ Rd6 (w.setCell ⟨g, 0, none⟩ u) g L U st.2.1 st.2.2 ∧ Aside g (g + 1) w (w.setCell ⟨g, 0, none⟩ u) := by
  subst hst; subst hV
  exact ⟨rfl, Rd6.put0 hA hL hv h1 h2 h3 hm u hu⟩
end
theorem readU_nil {bs : List Int} (h : (readU bs).2.2 = 0) : 0 < bs.length := by
  rcases bs with _ | ⟨b, t⟩
  · exact absurd h (by decide)
  · simp

set_option maxRecDepth 100000 in
set_option maxHeartbeats 1000000 in
theorem clone6_any (v : Value) (bs : List Int) (w : World) (hl : Lst w w.heap.size .u8 v bs) (hn : bs.length ≤ 1000000) :
    Calls Tryz.prog 50 #[v] w (Copied 5 .u8 w bs) := by
  obtain ⟨i0, hi, hz0, hz1, hz2⟩ := info_parts byte_info
  obtain ⟨A, c, rfl⟩ := hl.len
  rcases A with _ | ad
  · have h0 : bs = [] := by
      obtain ⟨A', c', e, _, hr⟩ := hl
      injection e with e
      subst e
      rcases Nat.eq_zero_or_pos bs.length with h | h
      · exact List.eq_nil_of_length_eq_zero h
      · obtain ⟨_, e, _⟩ := hr h; cases e
    subst h0
    clear hl
    have he : ∀ w : World, (binOp .eql 41 (.slice none 0 c) (.slice none 0 0)).run Tryz.prog w = .ok (.bool true) w := fun _ => rfl
    go_enter Tryz.func50, Tryz.ntmps50
    go_wp2_with fail
    go_ret
    exact ⟨_, rfl, ⟨rfl, .inl ⟨rfl, rfl⟩⟩, Below.refl _ _⟩
  · have hsrc := hl.src (w' := w.alloc (.cells #[] 5)) (fun _ hp => (below_new w _).cell hp)
    have SRC := Lib.hid hsrc
    clear hsrc hl
    have he : ∀ w : World, (binOp .eql 41 (.slice (some ad) bs.length c) (.slice none 0 0)).run Tryz.prog w = .ok (.bool false) w := fun _ => rfl
    go_enter Tryz.func50, Tryz.ntmps50
    go_wp2_with (at_builtin; go_must (refine wpList_append_src _ rfl (.tmp 5) (.tmp 6) 41 rfl w.heap.size 5 i0 (.int .u8 0) Tryz.underlying41 hi hz0 hz1 1 hz2 rfl _ 0 [] rfl (owned_empty _ w _ (Nat.le_refl _)) (some ad) c bs rfl SRC.out (by unfold maxLen; omega) (by omega) (by simp) ?_); intro v1 w1 hown1 hgrow1)
    have hb := copied_own hown1 hgrow1
    clear hown1 hgrow1
    go_ret
    exact ⟨v1, rfl, hb⟩

set_option maxRecDepth 100000 in
set_option maxHeartbeats 1000000 in
theorem new6_any (v : Value) (bs : List Int) (w : World) (hl : Lst w w.heap.size .u8 v bs) (hn : bs.length ≤ 1000000) :
    Calls Tryz.prog 24 #[v] w fun e w' => ∃ g, e = .returned (ptrV g) ∧ Rd6 w' g w.heap.size w'.heap.size bs 0 ∧ Below w.heap.size w w' := by
  have CC := Lib.hid (clone6_any v bs w hl hn)
  go_enter Tryz.func24, Tryz.ntmps24
  go_wp2_with fail
  refine (CC.out).mono ?_; rintro e w1 ⟨u, rfl, hO, hb⟩
  obtain ⟨A, c, rfl⟩ := hO.val
  have h2 := At2.new w1 (.slice A bs.length c) (.int .i64 0) 91
  have hB := below_new w1 (.cells #[.slice A bs.length c, .int .i64 0] 91)
  have HO := Lib.hid hO
  go_wp2_with fail
  go_ret
  exact ⟨_, rfl, ⟨_, h2, HO.out.lst.below hB, Above.own HO.out, hb.size, by simp, by simp⟩, hb.trans (hB.mono hb.size)⟩

/-- What upTo leaves: the value, what is left, the error. -/
def stM (bs : List Int) (e most : Int) : Int × List Int × Int := if e = 0 ∧ (readU bs).2.2 = 0 ∧ most < (readU bs).1 then (0, bs, 17) else stU bs e

set_option maxRecDepth 100000 in
set_option maxHeartbeats 2000000 in
theorem upTo6_any (g L U : Nat) (bs : List Int) (e most : Int) (w : World) (hr : Rd6 w g L U bs e) (hb : ∀ c ∈ bs, 0 ≤ c ∧ c ≤ 255) (hn : bs.length ≤ 1000000)  :
    Calls Tryz.prog 71 #[ptrV g, .int .u64 most] w fun e' w' => e' = .returned (.int .u64 (stM bs e most).1) ∧ Rd6 w' g L U (stM bs e most).2.1 (stM bs e most).2.2 ∧ Aside g (g + 1) w w' := by
  obtain ⟨v, hA, hL, hv, h1, h2, h3⟩ := id hr
  have CF := Lib.hid (first6_any g v bs w hL hb hn)
  obtain ⟨A, c, rfl⟩ := hL.len
  obtain ⟨c0, c1, f0, f1⟩ := id hA
  have HR := Lib.hid hr
  have HL := Lib.hid hL
  have HA := Lib.hid hA
  have HV := Lib.hid hv
  clear hr hL hv hA hb
  by_cases he : e = 0
  · subst he
    have HM : Hid (stM bs 0 most = if (readU bs).2.2 = 0 ∧ most < (readU bs).1 then (0, bs, 17) else readU bs) := Lib.hid (by
      unfold stM stU; simp)
    have HNE := Lib.hid (readU_nil (bs := bs))
    generalize stM bs 0 most = sm at *
    generalize readU bs = st at *
    go_enter Tryz.func71, Tryz.ntmps71
    go_wp2_with fail
    refine (CF.out).mono ?_; rintro e1 w1 ⟨⟨x, m, er, rfl, hq⟩, rfl⟩
    rcases hq with ⟨rfl, hml, hst⟩ | ⟨her, rfl, rfl, hst⟩
    · by_cases hgt : most < x
      · have HE : Hid (sm = (0, bs, 17)) := Lib.hid (by rw [HM.out, hst, if_pos ⟨rfl, hgt⟩])
        have HF := Lib.hid (HR.out.put1 17)
        clear hst
        go_wp2_with fail
        go_ret
        exact ⟨by rw [HE.out]; rfl, by rw [HE.out]; exact HF.out.1, HF.out.2⟩
      · have HE : Hid (sm = (x, bs.drop m, 0)) := Lib.hid (by rw [HM.out, hst, if_neg (fun h => hgt h.2)])
        have hcap : bs.length ≤ c := by obtain ⟨_, _, e, h, _⟩ := HL.out; injection e with _ _ e; omega
        have m0 : (0 : Int) ≤ (m : Int) := by omega
        have m1 : (m : Int) ≤ (bs.length : Int) := by omega
        obtain ⟨ad, rfl⟩ : ∃ ad, A = some ad := by
          obtain ⟨A', c', e, _, hr⟩ := HL.out
          injection e with e
          obtain ⟨ad, e2, _⟩ := hr (HNE.out (by rw [hst]))
          exact ⟨ad, e.trans e2⟩
        clear hst
        go_wp2_with fail
        all_goals
          go_ret
          exact Rd6.took HE.out HA.out HL.out HV.out h1 h2 h3 hml rfl _ (by first | exact Or.inl ⟨by omega, by simp [*]⟩ | exact Or.inr ⟨by omega, _, rfl, by simp [Addr.add]⟩)
    · have HE : Hid (sm = (0, bs, er)) := Lib.hid (by rw [HM.out, hst, if_neg (fun h => her h.1)])
      have HF := Lib.hid (HR.out.put1 er)
      have e1 : (er == 0) = false := by simpa using her
      have e2 : (er != 0) = true := by simpa using her
      clear hst her
      go_wp2_with fail
      go_ret
      exact ⟨by rw [HE.out]; rfl, by rw [HE.out]; exact HF.out.1, HF.out.2⟩
  · have HM : Hid (stM bs e most = (0, bs, e)) := Lib.hid (by unfold stM stU; rw [if_neg (fun h => he h.1), if_neg he])
    have e1 : (e != 0) = true := by simpa using he
    clear he
    go_enter Tryz.func71, Tryz.ntmps71
    go_wp2_with fail
    go_ret
    exact ⟨by rw [HM.out]; rfl, by rw [HM.out]; exact HR.out, Aside.refl _ _ _⟩
end Go.Proofs.YteiilmnehdbdiaaGreatDoor
