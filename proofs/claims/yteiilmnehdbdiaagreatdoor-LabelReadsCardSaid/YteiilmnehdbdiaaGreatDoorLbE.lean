/- Package label: the text of a series, walked. -/
import Derived.Test.YteiilmnehdbdiaaGreatDoorLbC
import Derived.Test.YteiilmnehdbdiaaGreatDoorLabQ
import Derived.Test.YteiilmnehdbdiaaGreatDoorLabO
import Derived.Test.YteiilmnehdbdiaaGreatDoorOwn
import Derived.Test.YteiilmnehdbdiaaGreatDoorPost
namespace Go.Proofs.YteiilmnehdbdiaaGreatDoor
open Go.RowKit

/-! a call's own list of strings -/
def OwnT (t : TypeId) (w : World) (B : Nat) (v : Value) (ss : List ByteArray) : Prop := w.ownsRow B t 1 v ss.length (ss.map Value.string)
section
variable {t : TypeId} {w w1 : World} {B : Nat} {v v' : Value} {ss : List ByteArray}
theorem OwnT.nil_ (t : TypeId) (w : World) (B : Nat) : OwnT t w B (.slice none 0 0) [] := ⟨rfl, .inl ⟨rfl, rfl⟩⟩
theorem OwnT.block_ (h : OwnT t w B v ss) (hb : ∀ i, B ≤ i → i < w.heap.size → w1.heap[i]? = w.heap[i]?) : OwnT t w1 B v ss := by
  refine ⟨h.1, ?_⟩
  rcases h.2 with h0 | ⟨g, cap, cur, rfl, hg, hh, h2⟩
  · exact .inl h0
  · have hl := World.ownsRow.lt h g rfl
    exact .inr ⟨g, cap, cur, rfl, hg, (hb g hl.1 hl.2).trans hh, h2⟩
theorem OwnT.keep (h : OwnT t w B v ss) (hb : Below w.heap.size w w1) : OwnT t w1 B v ss := h.block_ fun i _ hi => hb.block i hi
theorem OwnT.alloc_ (h : OwnT t w B v ss) (o : Obj) : OwnT t (w.alloc o) B v ss := h.keep (below_new w o)
theorem OwnT.push {o : Obj} {s : ByteArray} (hown : OwnT t w B v ss) (hsz : B ≤ w.heap.size) (h' : w1.ownsRow B t 1 v' (ss.length + 1) (ss.map Value.string ++ [.string s])) (hg : (w.alloc o).grownBy w1 v.ownBlock) :
    OwnT t w1 B v' (ss ++ [s]) ∧ Below B w w1 := by
  constructor
  · unfold OwnT; rw [List.map_append, List.length_append]; exact h'
  · exact ((Below.refl B w).alloc hsz o).grown hg (by simp; omega) (fun k hk => (World.ownsRow.lt hown k hk).1)
theorem OwnT.val (h : OwnT t w B v ss) : ∃ A c, v = .slice A ss.length c := by
  rcases h.2 with ⟨rfl, h0⟩ | ⟨g, cap, cur, rfl, _⟩
  · exact ⟨none, 0, by rw [h0]⟩
  · exact ⟨_, _, rfl⟩
theorem OwnT.form (h : OwnT t w B v ss) (hn : 0 < ss.length) : ∃ g c, v = .slice (some ⟨g, 0, none⟩) ss.length c ∧ B ≤ g ∧ g < w.heap.size ∧ ss.length ≤ c ∧ ∀ (j : Nat) x, ss[j]? = some x → w.cell? ⟨g, 0 + j, none⟩ = some (.string x) := by
  rcases id h.2 with ⟨_, h0⟩ | ⟨g, cap, cur, rfl, hb, hh, hc, _⟩
  · omega
  · have hl := World.ownsRow.lt h g rfl
    refine ⟨g, cap, rfl, hl.1, hl.2, hc, fun j x hj => ?_⟩
    have hc := h.cells (g := g) rfl j (.string x) (by rw [List.getElem?_map, hj]; rfl)
    rw [show (Addr.mk g 0 none).add j = ⟨g, j, none⟩ by unfold Addr.add; split <;> simp_all] at hc
    rw [Nat.zero_add]
    exact hc
end

/-! the text -/
def nv (l : Lab) : ByteArray := l.1 ++ oneS 61 ++ l.2
theorem join_body : ∀ x : List Lab, x ≠ [] → Lib.join ((x.map nv).map (·.data.toList)) [44] ++ [125] = bodyP (x.map labB)
  | [], h => absurd rfl h
  | [l], _ => by
    simp only [List.map_cons, List.map_nil, Lib.join_one, bodyP, nv, labB, app_data, oneS]
    simp
  | l :: m :: t, _ => by
    have ih := join_body (m :: t) (by simp)
    simp only [List.map_cons, Lib.join_cons, Lib.joinTail, List.map_cons, List.flatten_cons] at ih ⊢
    simp only [bodyP]
    rw [List.append_assoc, List.append_assoc, List.append_assoc, ← List.append_assoc (nv m).data.toList]
    rw [show ((nv m).data.toList ++ (List.map (fun x => [44] ++ x) (List.map (fun x => x.data.toList) (List.map nv t))).flatten) ++ [125] = _ from ih]
    simp only [nv, labB, app_data, oneS]
    simp
def joinS (x : List Lab) : ByteArray := ⟨(Lib.join ((x.map nv).map (·.data.toList)) (oneS 44).data.toList).toArray⟩
theorem join_full {n : ByteArray} {x : List Lab} (h : x ≠ []) : n ++ oneS 123 ++ joinS x ++ oneS 125 = fullS n x := by
  refine ByteArray.ext (Array.toList_inj.1 ?_)
  rw [full_bytes, if_neg h, ← join_body x h]
  simp only [app_data, oneS, joinS]
  simp

theorem bodyP_len : ∀ x : List Lab, (∀ l ∈ x, l.1.size ≤ 64 ∧ l.2.size ≤ 64) → (bodyP (x.map labB)).length ≤ 130 * x.length
  | [], _ => by simp [bodyP]
  | [l], h => by
    have := h l (List.mem_cons_self ..)
    simp [bodyP, labB]; omega
  | l :: m :: t, h => by
    have h1 := h l (List.mem_cons_self ..)
    have ih := bodyP_len (m :: t) fun a ha => h a (List.mem_cons_of_mem _ ha)
    simp only [List.map_cons] at ih ⊢
    rw [bodyP]
    simp [labB] at ih ⊢
    omega
theorem join_len {x : List Lab} (h : x ≠ []) (hz : ∀ l ∈ x, l.1.size ≤ 64 ∧ l.2.size ≤ 64) : (Lib.join ((x.map nv).map (·.data.toList)) (oneS 44).data.toList).length ≤ 130 * x.length := by
  have h1 := bodyP_len x hz
  rw [← join_body x h, List.length_append] at h1
  exact Nat.le_trans (Nat.le_add_right _ _) h1
theorem one_at (wr : World) (x : Value) (t : TypeId) (g : Nat) (hg : Hid (g = wr.heap.size)) : ∀ j u, [x][j]? = some u → (wr.alloc (.cells #[x] t)).cell? ((⟨g, 0, none⟩ : Addr).add j) = some u := by
  have := hg.out; subst this; exact one_val wr x t
set_option maxRecDepth 100000 in
theorem str8_info : (Tryz.prog.info? 9).map (fun i => (i.zero, i.size, i.bytes)) = some (some (.string ByteArray.empty), 1, 16) := by kernel_rfl
set_option maxRecDepth 100000 in
set_option maxHeartbeats 1000000 in
theorem text8_any (n : ByteArray) (u : Value) (x : List Lab) (w : World) (hx : Labs w w.heap.size u x) (hn : n.size ≤ 1000000) (hl : x.length ≤ 1000000) (hz : ∀ l ∈ x, l.1.size ≤ 1000000 ∧ l.2.size ≤ 1000000) :
    Calls Tryz.prog 16 #[.agg #[.string n, u]] w fun e w' => e = .returned (.string (textS n x)) ∧ Below w.heap.size w w' := by
  obtain ⟨i0, hi, hz0, hz1, hz2⟩ := info_parts str8_info
  obtain ⟨A0, c0, rfl⟩ := hx.len
  have hW : Below w.heap.size w (w.alloc (.cells #[.string n, .slice A0 x.length c0] 24)) := grew1 w _
  have aX := At2.new w (.string n) (.slice A0 x.length c0) 24
  have hWs := World.size_alloc w (.cells #[.string n, .slice A0 x.length c0] 24)
  have LX := Lib.hid hx
  have CR := Lib.hid (right8_any n (.slice A0 x.length c0) x (w.alloc (.cells #[.string n, .slice A0 x.length c0] 24)) ((hx.below hW).more hW.size) hn hl hz)
  clear hx hz
  obtain ⟨a0, a1, -, -⟩ := id aX
  by_cases hr : IsRight n x
  case neg =>
    have hE : Hid (textS n x = ByteArray.empty) := Lib.hid (by unfold textS; rw [if_neg hr])
    rw [decide_eq_false hr] at CR
    clear hr
    go_enter Tryz.func16, Tryz.ntmps16
    go_wp2_with fail
    refine (CR.out).mono ?_; rintro e w1 ⟨rfl, h1⟩
    have hB := hW.trans (h1.mono hW.size)
    go_wp2_with fail
    go_ret
    exact ⟨by rw [hE.out]; rfl, hB⟩
  have HT : Hid (textS n x = fullS n x) := Lib.hid (by unfold textS; rw [if_pos hr])
  have hn64 : n.size ≤ 64 := hr.1.2.1
  have h8 : x.length ≤ 8 := hr.2.1
  have HZ : Hid (∀ l ∈ x, l.1.size ≤ 64 ∧ l.2.size ≤ 64) := Lib.hid fun l hm => ⟨(hr.2.2.1 l hm).1.2.1, (hr.2.2.1 l hm).2.1⟩
  rw [decide_eq_true hr] at CR
  clear hr
  by_cases h0 : x = []
  · subst h0
    have hE : Hid (fullS n [] = n) := Lib.hid rfl
    go_enter Tryz.func16, Tryz.ntmps16
    go_wp2_with fail
    refine (CR.out).mono ?_; rintro e w1 ⟨rfl, h1⟩
    have hB := hW.trans (h1.mono hW.size)
    obtain ⟨b0, b1, -, -⟩ := aX.below h1
    clear a0 a1
    go_wp2_with fail
    go_ret
    exact ⟨by rw [HT.out, hE.out]; rfl, hB⟩
  have hlp : 0 < x.length := List.length_pos_iff.2 h0
  have hl0 : ((x.length : Int) == 0) = false := by simp; omega
  have HJL := Lib.hid (join_len h0 HZ.out)
  have HJ : Hid (n ++ oneS 123 ++ joinS x ++ oneS 125 = fullS n x) := Lib.hid (join_full h0)
  clear h0
  go_enter Tryz.func16, Tryz.ntmps16
  go_wp2_with fail
  refine (CR.out).mono ?_; rintro e w1 ⟨rfl, h1⟩
  have hB := hW.trans (h1.mono hW.size)
  have aX1 := aX.below h1
  have hs1 : w.heap.size + 1 ≤ w1.heap.size := by have := h1.size; omega
  obtain ⟨b0, b1, -, -⟩ := id aX1
  clear a0 a1 aX
  go_wp2_with fail
  clear b0 b1 CR
  go_loopw [3, 18] (fun o i wr => ∃ k : Nat, k ≤ x.length ∧ i = .int .i64 k ∧ OwnT 9 wr w1.heap.size o ((x.map nv).take k) ∧ Below w1.heap.size w1 wr) (fun _ i _ => x.length - (intOf i).toNat)
  case atStart => exact ⟨0, Nat.zero_le _, rfl, OwnT.nil_ _ _ _, Below.refl _ _⟩
  case round =>
    obtain ⟨k, hk, rfl, hown, hB1⟩ := hrel
    have hB2 := hB.trans (hB1.mono (by omega))
    by_cases hlt : k < x.length
    · obtain ⟨ax, rfl, hbx, hcx⟩ := (LX.out.below hB2).at_ (by omega)
      obtain ⟨x0, x1⟩ := hcx k hlt
      rw [add_next] at x1
      have j0 : (0 : Int) ≤ (k : Int) := by omega
      have j1 : (k : Int) < (x.length : Int) := by omega
      have hG := grew1 wr (.cells #[.string x[k].1, .string x[k].2] 45)
      obtain ⟨v0, v1, -, -⟩ := At2.new wr (.string x[k].1) (.string x[k].2) 45
      have hlen : ((x.map nv).take k).length = k := by rw [List.length_take, List.length_map]; omega
      have HS : Hid ((x.map nv).take (k + 1) = (x.map nv).take k ++ [x[k].1 ++ oneS 61 ++ x[k].2]) := Lib.hid (by rw [List.take_succ_eq_append_getElem (by rw [List.length_map]; exact hlt), List.getElem_map]; rfl)
      obtain ⟨z0, z1⟩ := HZ.out _ (List.getElem_mem hlt)
      clear hcx
      generalize x[k].1 = p0 at *
      generalize x[k].2 = p1 at *
      generalize (x.map nv).take k = ss at *
      have hown1 := hown.alloc_ (.cells #[.string p0, .string p1] 45)
      have hsz1 : w1.heap.size ≤ (wr.alloc (.cells #[.string p0, .string p1] 45)).heap.size := by have := hB1.size; have := hG.size; omega
      go_wp2_with (at_builtin; go_must (refine wpList_append_own _ rfl (.tmp 22) (.tmp 29) 79 rfl w1.heap.size 9 i0 (.string ByteArray.empty) 1 16 Tryz.underlying79 hi hz0 hz1 hz2 rfl (by decide) _ ss.length (ss.map Value.string) rfl (World.ownsRow.alloc hown1 _) ⟨wr.heap.size + 1, 0, none⟩ 1 1 [.string (p0 ++ oneS 61 ++ p1)] rfl rfl (one_at _ _ _ _ (Lib.hid (by simp))) (fun u hu => by simp at hu; subst hu; rfl) (by unfold maxLen; omega) (by omega) (by rw [World.size_alloc]; omega) ?_); intro v2 w2 hown2 hgrow2 _)
      obtain ⟨hO2, hb3⟩ := hown1.push hsz1 hown2 hgrow2
      rw [← HS.out] at hO2
      have hB3 := (hB1.alloc hB1.size (.cells #[.string p0, .string p1] 45)).trans hb3
      refine ⟨⟨k + 1, hlt, by go_num, hO2, hB3⟩, ?_⟩; simp [intOf]; omega
    · obtain rfl : k = x.length := by omega
      have j1 : ¬ (x.length : Int) < (x.length : Int) := by omega
      rw [show (x.map nv).take x.length = x.map nv from List.take_of_length_le (by simp)] at hown
      obtain ⟨g, c, eo, hg0, hg1, hgc, hcell⟩ := hown.form (by simpa using hlp)
      rw [List.length_map] at eo
      subst eo
      obtain ⟨b0, -, -, -⟩ := aX1.below hB1
      have CJ : Hid (∀ W, Below wr.heap.size wr W → Calls Tryz.prog 42 #[.slice (some ⟨g, 0, none⟩) x.length c, .string (oneS 44)] W fun e w' => e = .returned (.string (joinS x)) ∧ Below W.heap.size W w') := Lib.hid fun W h => by
        have := Tryz.strings_Join g 0 c (x.map nv) (oneS 44) W (fun j y hj => (h.cell (p := ⟨g, 0 + j, none⟩) hg1).trans (hcell j y hj)) (Nat.lt_of_lt_of_le hg1 h.size) (by simp; omega) hgc (Nat.le_trans HJL.out (by omega))
        rw [List.length_map] at this
        exact this
      have hjs : (joinS x).size ≤ 1040 := by
        have := HJL.out
        show (List.toArray _).size ≤ 1040
        rw [List.size_toArray]
        omega
      have HJ2 := Lib.hid (HT.out.trans HJ.out.symm)
      have hx1 : (n ++ oneS 123).size = n.size + 1 := by rw [ByteArray.size_append]; rfl
      have hx2 : (n ++ oneS 123 ++ joinS x).size = n.size + 1 + (joinS x).size := by rw [ByteArray.size_append, hx1]
      clear hcell hown HJL HZ HJ HT
      generalize joinS x = js at *
      unfold oneS at CJ HJ2 hx1 hx2
      go_wp2_with fail
      refine wp_region_held_drew (S := fun w' => w'.cell? ⟨w.heap.size, 0, none⟩ = some (.string n)) (by kernel_rfl) ?_ (fun hHeld => ?_)
      · exact b0
      refine take_at (i := 0) (d := some 32) (v := ?_) rfl rfl (by kernel_rfl) (by kernel_rfl) (by kernel_rfl) (fun _ _ _ h => h) (Or.inl ⟨by rfl, ?hyc1⟩) (by assumption) ?restc1
      case hyc1 => (intro w hSw; (try dsimp only at hSw); go_simp; try with_reducible rfl)
      (try simp only [Act.put]); (try simp only [List.setIfInBounds_toArray]); (try simp only [List.set_cons_succ]); (try simp only [List.set_cons_zero])
      refine take_at (i := 1) (d := some 33) (v := ?_) rfl rfl (by kernel_rfl) (by kernel_rfl) (by kernel_rfl) (fun _ _ _ h => h) (Or.inl ⟨by rfl, ?hyc2⟩) (by assumption) ?restc2
      case hyc2 => (intro w hSw; (try dsimp only at hSw); go_simp; try with_reducible rfl)
      (try simp only [Act.put]); (try simp only [List.setIfInBounds_toArray]); (try simp only [List.set_cons_succ]); (try simp only [List.set_cons_zero])
      refine take_at (i := 2) (d := some 34) (v := ?_) rfl rfl (by kernel_rfl) (by kernel_rfl) (by kernel_rfl) (fun _ _ _ h => h) (Or.inl ⟨by rfl, ?hyc3⟩) (by assumption) ?restc3
      case hyc3 => (intro w hSw; (try dsimp only at hSw); go_simp; rw [if_neg (by omega)])
      (try simp only [Act.put]); (try simp only [List.setIfInBounds_toArray]); (try simp only [List.set_cons_succ]); (try simp only [List.set_cons_zero])
      refine take_at (i := 3) (d := some 35) (v := ?_) rfl rfl (by kernel_rfl) (by kernel_rfl) (by kernel_rfl) (fun _ _ _ h => h) (Or.inl ⟨by rfl, ?hyc4⟩) (by assumption) ?restc4
      case hyc4 => (intro w hSw; (try dsimp only at hSw); go_simp; try with_reducible rfl)
      (try simp only [Act.put]); (try simp only [List.setIfInBounds_toArray]); (try simp only [List.set_cons_succ]); (try simp only [List.set_cons_zero])
      refine wpAnyH_ready (rs := [4]) (by kernel_rfl) (by simp) ?_
      refine AllReadyH.cons rfl (fun K hK => ?_) AllReadyH.nil
      go_simp
      refine (CJ.out _ ?hbq).mono ?_
      case hbq => first | exact below_drewN (Below.refl wr.heap.size wr) 1 | exact ext_drew (Below.refl wr.heap.size wr)
      rintro e1 w3 ⟨rfl, hb3⟩
      try go_wp2_with fail
      refine hK.out _ _ ?_ (fun hHeld => ?_)
      · exact (hb3.cell (p := ⟨w.heap.size, 0, none⟩) (by have := hB2.size; have := hB1.size; show w.heap.size < wr.heap.size; omega)).trans b0
      clear hK K
      (try simp only [Act.put]); (try simp only [List.setIfInBounds_toArray]); (try simp only [List.set_cons_succ]); (try simp only [List.set_cons_zero])
      refine take_at (i := 5) (d := some 37) (v := ?_) rfl rfl (by kernel_rfl) (by kernel_rfl) (by kernel_rfl) (fun _ _ _ h => h) (Or.inl ⟨by rfl, ?hyc5⟩) (by assumption) ?restc5
      case hyc5 => (intro w hSw; (try dsimp only at hSw); go_simp; rw [if_neg (by omega)])
      (try simp only [Act.put]); (try simp only [List.setIfInBounds_toArray]); (try simp only [List.set_cons_succ]); (try simp only [List.set_cons_zero])
      refine take_at (i := 6) (d := some 38) (v := ?_) rfl rfl (by kernel_rfl) (by kernel_rfl) (by kernel_rfl) (fun _ _ _ h => h) (Or.inl ⟨by rfl, ?hyc6⟩) (by assumption) ?restc6
      case hyc6 => (intro w hSw; (try dsimp only at hSw); go_simp; rw [if_neg (by omega)])
      (try simp only [Act.put]); (try simp only [List.setIfInBounds_toArray]); (try simp only [List.set_cons_succ]); (try simp only [List.set_cons_zero])
      refine take_at (i := 7) (d := some 2) (v := ?_) rfl rfl (by kernel_rfl) (by kernel_rfl) (by kernel_rfl) (fun _ _ _ h => h) (Or.inl ⟨by rfl, ?hyc7⟩) (by assumption) ?restc7
      case hyc7 => (intro w hSw; (try dsimp only at hSw); go_simp; try with_reducible rfl)
      (try simp only [Act.put]); (try simp only [List.setIfInBounds_toArray]); (try simp only [List.set_cons_succ]); (try simp only [List.set_cons_zero])
      refine wpAnyH_done (by kernel_rfl) ?_ _
      have hB4 := hB2.trans ((below_drewN (Below.refl wr.heap.size wr) 1).trans hb3 |>.mono hB2.size)
      go_wp2_with fail
      go_ret
      exact ⟨by rw [HJ2.out]; rfl, hB4⟩
end Go.Proofs.YteiilmnehdbdiaaGreatDoor
