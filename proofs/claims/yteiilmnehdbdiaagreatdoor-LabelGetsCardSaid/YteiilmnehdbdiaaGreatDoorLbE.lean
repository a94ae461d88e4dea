/- Package label: the order of labels and of series, the value of a name, the text of a series, walked. -/
import Derived.Test.YteiilmnehdbdiaaGreatDoorLbR
import Derived.Test.YteiilmnehdbdiaaGreatDoorLabQ
import Derived.Test.YteiilmnehdbdiaaGreatDoorLabO
import Derived.Test.YteiilmnehdbdiaaGreatDoorOwn
import Derived.Test.YteiilmnehdbdiaaGreatDoorPost
namespace Go.Proofs.YteiilmnehdbdiaaGreatDoor

section
section
open Go.RowKit

theorem cmpBytes_eq : ∀ a b : List UInt8, Lib.compareBytes a b = if Op.bytesLess a b = true then -1 else if Op.bytesLess b a = true then 1 else 0
  | [], [] => rfl
  | [], _ :: _ => rfl
  | _ :: _, [] => rfl
  | a :: x, b :: y => by
    have ih := cmpBytes_eq x y
    unfold Lib.compareBytes Op.bytesLess
    rw [ih]
    by_cases h1 : a < b
    · simp [h1]
    · by_cases h2 : b < a
      · have hn : ¬ a = b := fun e => by subst e; exact h1 h2
        simp [h1, h2, hn]
      · obtain rfl : a = b := UInt8.le_antisymm (UInt8.not_lt.1 h2) (UInt8.not_lt.1 h1)
        simp
theorem cmpBytes_ord (a b : ByteArray) : Lib.compareBytes a.data.toList b.data.toList = ordS a b := by
  rw [cmpBytes_eq, ← ByteArray.toList_eq, ← ByteArray.toList_eq]; rfl
theorem order8_any (a b : ByteArray) (w : World) : Calls Tryz.prog 55 #[.string a, .string b] w fun e w' => e = .returned (.int .i64 (ordS a b)) ∧ w' = w := by
  have := Tryz.strings_Compare a b w
  rw [cmpBytes_ord] at this
  exact this
def ordL (l m : Lab) : Int := if ordS l.1 m.1 ≠ 0 then ordS l.1 m.1 else ordS l.2 m.2

set_option maxRecDepth 100000 in
set_option maxHeartbeats 1000000 in
theorem lcompare8_any (a b c d : ByteArray) (w : World) :
    Calls Tryz.prog 37 #[.agg #[.string a, .string b], .agg #[.string c, .string d]] w fun e w' => e = .returned (.int .i64 (ordL (a, b) (c, d))) ∧ ∃ os, w' = Sort.grow w os := by
  have CO := Lib.hid order8_any
  obtain ⟨a0, a1, -, -⟩ := (At2.new w (.string a) (.string b) 45).alloc (.cells #[.string c, .string d] 45)
  have B0 := At2.new (w.alloc (.cells #[.string a, .string b] 45)) (.string c) (.string d) 45
  rw [World.size_alloc] at B0
  obtain ⟨b0, b1, -, -⟩ := B0
  have HW : Hid (∃ os, (w.alloc (.cells #[.string a, .string b] 45)).alloc (.cells #[.string c, .string d] 45) = Sort.grow w os) := Lib.hid ⟨_, by rw [Sort.alloc_eq_grow, Sort.alloc_eq_grow, Sort.grow_grow]⟩
  by_cases h : ordS a c = 0
  · have hE : Hid (ordL (a, b) (c, d) = ordS b d) := Lib.hid (by unfold ordL; rw [if_neg (by simpa using h)])
    go_enter Tryz.func37, Tryz.ntmps37
    go_wp2_with fail
    refine (CO.out _ _ _).mono ?_; rintro e w1 ⟨rfl, rfl⟩
    go_wp2_with fail
    refine (CO.out _ _ _).mono ?_; rintro e w1 ⟨rfl, rfl⟩
    go_wp2_with fail
    go_ret
    exact ⟨by rw [hE.out]; rfl, HW.out⟩
  · have hE : Hid (ordL (a, b) (c, d) = ordS a c) := Lib.hid (by unfold ordL; rw [if_pos h])
    have h0 : (ordS a c == 0) = false := by simpa using h
    go_enter Tryz.func37, Tryz.ntmps37
    go_wp2_with fail
    refine (CO.out _ _ _).mono ?_; rintro e w1 ⟨rfl, rfl⟩
    go_wp2_with fail
    go_ret
    exact ⟨by rw [hE.out]; rfl, HW.out⟩

theorem below_grow (w : World) (os : Array Obj) : Below w.heap.size w (Sort.grow w os) := by
  refine ⟨rfl, rfl, rfl, ?_, fun k hk => ?_⟩
  · unfold Sort.grow; simp
  · show (w.heap ++ os)[k]? = w.heap[k]?
    rw [Array.getElem?_append, if_pos hk]
theorem cmpL_ord (a b : Lab) (x y : List Lab) : cmpL (a :: x) (b :: y) = if ordL a b ≠ 0 then ordL a b else cmpL x y := by
  rw [cmpL]
  unfold ordL
  by_cases h : ordS a.1 b.1 = 0
  · simp [h]
  · simp [h]
set_option maxRecDepth 100000 in
set_option maxHeartbeats 2000000 in
theorem cmpFunc8_any (u v : Value) (x y : List Lab) (w : World) (hx : Labs w w.heap.size u x) (hy : Labs w w.heap.size v y) (nx : x.length ≤ 1000000) (ny : y.length ≤ 1000000) :
    Calls Tryz.prog 56 #[u, v, .func (.func 37) #[] #[]] w fun e w' => e = .returned (.int .i64 (cmpL x y)) ∧ Below w.heap.size w w' := by
  have eg : ∀ args w, (callFunc 37 args).run Tryz.prog w = .ok (.enter 37 args) w := enters_of Tryz.func37 (by kernel_rfl) rfl
  obtain ⟨A0, c0, rfl⟩ := hx.len
  obtain ⟨A1, c1, rfl⟩ := hy.len
  have LX := Lib.hid hx
  have LY := Lib.hid hy
  have CC := Lib.hid fun a b c d W => lcompare8_any a b c d W
  clear hx hy
  go_enter Tryz.func56, Tryz.ntmps56
  go_wp2_with fail
  go_loopw [13] (fun i wr => ∃ k : Nat, Below w.heap.size w wr ∧ k ≤ x.length ∧ k ≤ y.length ∧ i = .int .i64 k ∧ Hid (cmpL x y = cmpL (x.drop k) (y.drop k))) (fun i _ => x.length - (intOf i).toNat)
  case atStart => exact ⟨0, Below.refl _ _, Nat.zero_le _, Nat.zero_le _, rfl, Lib.hid rfl⟩
  case round =>
    obtain ⟨k, hW, hkx, hky, rfl, hz⟩ := hrel
    by_cases hx1 : k < x.length
    · obtain ⟨ax, rfl, hbx, hcx⟩ := (LX.out.below hW).at_ (by omega)
      obtain ⟨x0, x1⟩ := hcx k hx1
      rw [add_next] at x1
      have i1 : (k : Int) < (x.length : Int) := by omega
      have i0 : (0 : Int) ≤ (k : Int) := by omega
      by_cases hy1 : k < y.length
      · have i2 : ¬ (y.length : Int) ≤ (k : Int) := by omega
        have i3 : (k : Int) < (y.length : Int) := by omega
        obtain ⟨ay, rfl, hby, hcy⟩ := (LY.out.below (hW.trans ((grew1 wr (.cells #[.string x[k].1, .string x[k].2] 45)).mono hW.size))).at_ (by omega)
        have hG := grew1 wr (.cells #[.string x[k].1, .string x[k].2] 45)
        have hG2 := grew2 wr (.cells #[.string x[k].1, .string x[k].2] 45) (.cells #[.string y[k].1, .string y[k].2] 45)
        obtain ⟨v0, v1, -, -⟩ := (At2.new wr (.string x[k].1) (.string x[k].2) 45).alloc (.cells #[.string y[k].1, .string y[k].2] 45)
        have aY := At2.new (wr.alloc (.cells #[.string x[k].1, .string x[k].2] 45)) (.string y[k].1) (.string y[k].2) 45
        rw [World.size_alloc] at aY
        obtain ⟨w0, w1, -, -⟩ := aY
        obtain ⟨y0, y1⟩ := hcy k hy1
        rw [add_next] at y1
        have hN : Hid (cmpL x y = if ordL (x[k].1, x[k].2) (y[k].1, y[k].2) ≠ 0 then ordL (x[k].1, x[k].2) (y[k].1, y[k].2) else cmpL (x.drop (k + 1)) (y.drop (k + 1))) := Lib.hid (by rw [hz.out, List.drop_eq_getElem_cons hx1, List.drop_eq_getElem_cons hy1, cmpL_ord])
        clear hz hcx hcy
        generalize x[k].1 = p0 at *
        generalize x[k].2 = p1 at *
        generalize y[k].1 = q0 at *
        generalize y[k].2 = q1 at *
        go_wp2_with fail
        refine (CC.out _ _ _ _ _).mono ?_; rintro e w2 ⟨rfl, hos⟩
        generalize ordL (p0, p1) (q0, q1) = z at *
        have hB2 : Below w.heap.size w w2 := by
          obtain ⟨os, rfl⟩ := hos
          exact hW.trans ((hG2.trans ((below_grow _ os).mono hG2.size)).mono hW.size)
        clear hos
        by_cases h0 : z = 0
        · subst h0
          have hN2 : Hid (cmpL x y = cmpL (x.drop (k + 1)) (y.drop (k + 1))) := Lib.hid (by rw [hN.out, if_neg (by simp)])
          go_wp2_with fail
          go_roundw
          case rel => exact ⟨k + 1, hB2, hx1, hy1, by go_num, hN2⟩
          case measure => simp [intOf]; omega
        · have hE : Hid (cmpL x y = z) := Lib.hid (by rw [hN.out, if_pos h0])
          have h00 : (z == 0) = false := by simpa using h0
          go_wp2_with fail
          go_ret
          exact ⟨by rw [hE.out]; rfl, hB2⟩
      · have hE : Hid (cmpL x y = 1) := Lib.hid (by rw [hz.out, show y.drop k = [] from List.drop_eq_nil_of_le (by omega), List.drop_eq_getElem_cons hx1]; rfl)
        have i2 : (y.length : Int) ≤ (k : Int) := by omega
        have hG := grew1 wr (.cells #[.string x[k].1, .string x[k].2] 45)
        clear hz hcx
        generalize x[k].1 = p0 at *
        generalize x[k].2 = p1 at *
        go_wp2_with fail
        go_ret
        exact ⟨by rw [hE.out]; rfl, hW.trans (hG.mono hW.size)⟩
    · have i1 : ¬ (k : Int) < (x.length : Int) := by omega
      by_cases hy1 : k < y.length
      · have hE : Hid (cmpL x y = -1) := Lib.hid (by rw [hz.out, show x.drop k = [] from List.drop_eq_nil_of_le (by omega), List.drop_eq_getElem_cons hy1]; rfl)
        have i2 : (x.length : Int) < (y.length : Int) := by omega
        go_wp2_with fail
        go_ret
        exact ⟨by rw [hE.out]; rfl, hW⟩
      · have hE : Hid (cmpL x y = 0) := Lib.hid (by rw [hz.out, show x.drop k = [] from List.drop_eq_nil_of_le (by omega), show y.drop k = [] from List.drop_eq_nil_of_le (by omega)]; rfl)
        have i2 : ¬ (x.length : Int) < (y.length : Int) := by omega
        go_wp2_with fail
        go_ret
        exact ⟨by rw [hE.out]; rfl, hW⟩

set_option maxRecDepth 100000 in
set_option maxHeartbeats 1000000 in
theorem compare8_any (n m : ByteArray) (u v : Value) (x y : List Lab) (w : World) (hx : Labs w w.heap.size u x) (hy : Labs w w.heap.size v y) (nx : x.length ≤ 1000000) (ny : y.length ≤ 1000000) :
    Calls Tryz.prog 31 #[.agg #[.string n, u], .agg #[.string m, v]] w fun e w' => e = .returned (.int .i64 (cmpI n m x y)) ∧ Below w.heap.size w w' := by
  obtain ⟨A0, c0, rfl⟩ := hx.len
  obtain ⟨A1, c1, rfl⟩ := hy.len
  have CO := Lib.hid order8_any
  have hW : Below w.heap.size w ((w.alloc (.cells #[.string n, .slice A0 x.length c0] 24)).alloc (.cells #[.string m, .slice A1 y.length c1] 24)) := grew2 w _ _
  have aX := (At2.new w (.string n) (.slice A0 x.length c0) 24).alloc (.cells #[.string m, .slice A1 y.length c1] 24)
  have aY := At2.new (w.alloc (.cells #[.string n, .slice A0 x.length c0] 24)) (.string m) (.slice A1 y.length c1) 24
  rw [World.size_alloc] at aY
  have C2 : Hid (∀ W, Below w.heap.size w W → _) := Lib.hid fun W h => cmpFunc8_any (.slice A0 x.length c0) (.slice A1 y.length c1) x y W ((hx.below h).more h.size) ((hy.below h).more h.size) nx ny
  clear hx hy
  obtain ⟨a0, a1, -, -⟩ := aX
  obtain ⟨b0, b1, -, -⟩ := aY
  by_cases h : ordS n m = 0
  · have hE : Hid (cmpI n m x y = cmpL x y) := Lib.hid (by unfold cmpI; rw [if_neg (by simpa using h)])
    go_enter Tryz.func31, Tryz.ntmps31
    go_wp2_with fail
    refine (CO.out _ _ _).mono ?_; rintro e w1 ⟨rfl, rfl⟩
    go_wp2_with fail
    refine (C2.out _ hW).mono ?_; rintro e w1 ⟨rfl, h1⟩
    have hB := hW.trans (h1.mono hW.size)
    go_wp2_with fail
    go_ret
    exact ⟨by rw [hE.out]; rfl, hB⟩
  · have hE : Hid (cmpI n m x y = ordS n m) := Lib.hid (by unfold cmpI; rw [if_pos h])
    have h0 : (ordS n m == 0) = false := by simpa using h
    go_enter Tryz.func31, Tryz.ntmps31
    go_wp2_with fail
    refine (CO.out _ _ _).mono ?_; rintro e w1 ⟨rfl, rfl⟩
    go_wp2_with fail
    go_ret
    exact ⟨by rw [hE.out]; rfl, hW⟩
end

section
open Go.RowKit

theorem getL_next {x : List Lab} {k : Nat} (h : k < x.length) (s : ByteArray) : getL (x.drop k) s = if x[k].1 = s then some x[k].2 else getL (x.drop (k + 1)) s := by
  rw [List.drop_eq_getElem_cons h]
  unfold getL
  rw [List.find?_cons]
  by_cases e : x[k].1 = s
  · rw [if_pos e]; simp [e]
  · rw [if_neg e]; simp [e]
set_option maxRecDepth 100000 in
set_option maxHeartbeats 2000000 in
theorem get8_any (n : ByteArray) (u : Value) (x : List Lab) (s : ByteArray) (w : World) (hx : Labs w w.heap.size u x) (hl : x.length ≤ 1000000) :
    Calls Tryz.prog 21 #[.agg #[.string n, u], .string s] w fun e w' => e = .returned (.tuple #[.string ((getL x s).getD ByteArray.empty), .bool (getL x s).isSome]) ∧ Below w.heap.size w w' := by
  obtain ⟨A0, c0, rfl⟩ := hx.len
  have hW0 : Below w.heap.size w (w.alloc (.cells #[.string n, .slice A0 x.length c0] 24)) := grew1 w _
  obtain ⟨a0, a1, -, -⟩ := At2.new w (.string n) (.slice A0 x.length c0) 24
  have LX := Lib.hid (hx.below hW0)
  clear hx
  go_enter Tryz.func21, Tryz.ntmps21
  go_wp2_with fail
  generalize w.alloc (.cells #[.string n, .slice A0 x.length c0] 24) = W at *
  go_loopw [11] (fun i wr => ∃ k : Nat, Below w.heap.size w wr ∧ Below w.heap.size W wr ∧ k ≤ x.length ∧ i = .int .i64 k ∧ Hid (getL x s = getL (x.drop k) s)) (fun i _ => x.length - (intOf i).toNat)
  case atStart => exact ⟨0, hW0, Below.refl _ _, Nat.zero_le _, rfl, Lib.hid rfl⟩
  case round =>
    obtain ⟨k, hW, hW2, hk, rfl, hz⟩ := hrel
    by_cases hlt : k < x.length
    · obtain ⟨ax, rfl, hbx, hcx⟩ := (LX.out.below hW2).at_ (by omega)
      obtain ⟨x0, x1⟩ := hcx k hlt
      rw [add_next] at x1
      have j0 : (0 : Int) ≤ (k : Int) := by omega
      have j1 : (k : Int) < (x.length : Int) := by omega
      have hG := ext_alloc hW (.cells #[.string x[k].1, .string x[k].2] 45)
      have hG2 := hW2.alloc (Nat.le_trans hW.size (Nat.le_refl _)) (.cells #[.string x[k].1, .string x[k].2] 45)
      obtain ⟨v0, v1, -, -⟩ := At2.new wr (.string x[k].1) (.string x[k].2) 45
      have HN := Lib.hid (hz.out.trans (getL_next hlt s))
      clear hcx hz
      generalize x[k].1 = p0 at *
      generalize x[k].2 = p1 at *
      by_cases e : p0 = s
      · have hE : Hid (getL x s = some p1) := Lib.hid (by rw [HN.out, if_pos e])
        clear HN
        have e1 : (p0.toList == s.toList) = true := by rw [e]; exact beq_self_eq_true _
        go_wp2_with fail
        go_ret2
        rw [e] at hG
        exact ⟨by rw [hE.out]; rfl, hG⟩
      · have HN2 : Hid (getL x s = getL (x.drop (k + 1)) s) := Lib.hid (by rw [HN.out, if_neg e])
        have e1 : (p0.toList == s.toList) = false := by
          rw [beq_eq_false_iff_ne]
          exact fun h => e (toList_one.1 h)
        clear HN
        go_wp2_with fail
        go_roundw
        case rel => exact ⟨k + 1, hG, hG2, hlt, by go_num, HN2⟩
        case measure => simp [intOf]; omega
    · have hE : Hid (getL x s = none) := Lib.hid (by rw [hz.out, List.drop_eq_nil_of_le (by omega)]; rfl)
      have i1 : ¬ (k : Int) < (x.length : Int) := by omega
      go_wp2_with fail
      go_ret2
      exact ⟨by rw [hE.out]; rfl, hW⟩
end
end

section
open Go.RowKit

/-! a call's own list of strings -/
def OwnT (t : TypeId) (w : World) (B : Nat) (v : Value) (ss : List ByteArray) : Prop := w.ownsRow B t 1 v ss.length (ss.map Value.string)
section
variable {t : TypeId} {w w1 : World} {B : Nat} {v v' : Value} {ss : List ByteArray}
theorem OwnT.nil_ (t : TypeId) (w : World) (B : Nat) : OwnT t w B (.slice none 0 0) [] := ⟨rfl, .inl ⟨rfl, rfl⟩⟩
theorem OwnT.block_ (h : OwnT t w B v ss) (hb : ∀ i, B ≤ i → i < w.heap.size → w1.heap[i]? = w.heap[i]?) : OwnT t w1 B v ss := by
  refine ⟨h.1, ?_⟩
  rcases h.2 with h0 | ⟨g, cap, cur, rfl, hg, hh, h2⟩
  · exact .inl h0
  · have hl := World.ownsRow.lt h g rfl
    exact .inr ⟨g, cap, cur, rfl, hg, (hb g hl.1 hl.2).trans hh, h2⟩
theorem OwnT.keep (h : OwnT t w B v ss) (hb : Below w.heap.size w w1) : OwnT t w1 B v ss := h.block_ fun i _ hi => hb.block i hi
theorem OwnT.alloc_ (h : OwnT t w B v ss) (o : Obj) : OwnT t (w.alloc o) B v ss := h.keep (below_new w o)
theorem OwnT.push {o : Obj} {s : ByteArray} (hown : OwnT t w B v ss) (hsz : B ≤ w.heap.size) (h' : w1.ownsRow B t 1 v' (ss.length + 1) (ss.map Value.string ++ [.string s])) (hg : (w.alloc o).grownBy w1 v.ownBlock) :
    OwnT t w1 B v' (ss ++ [s]) ∧ Below B w w1 := by
  constructor
  · unfold OwnT; rw [List.map_append, List.length_append]; exact h'
  · exact ((Below.refl B w).alloc hsz o).grown hg (by simp; omega) (fun k hk => (World.ownsRow.lt hown k hk).1)
theorem OwnT.val (h : OwnT t w B v ss) : ∃ A c, v = .slice A ss.length c := by
  rcases h.2 with ⟨rfl, h0⟩ | ⟨g, cap, cur, rfl, _⟩
  · exact ⟨none, 0, by rw [h0]⟩
  · exact ⟨_, _, rfl⟩
theorem OwnT.form (h : OwnT t w B v ss) (hn : 0 < ss.length) : ∃ g c, v = .slice (some ⟨g, 0, none⟩) ss.length c ∧ B ≤ g ∧ g < w.heap.size ∧ ss.length ≤ c ∧ ∀ (j : Nat) x, ss[j]? = some x → w.cell? ⟨g, 0 + j, none⟩ = some (.string x) := by
  rcases id h.2 with ⟨_, h0⟩ | ⟨g, cap, cur, rfl, hb, hh, hc, _⟩
  · omega
  · have hl := World.ownsRow.lt h g rfl
    refine ⟨g, cap, rfl, hl.1, hl.2, hc, fun j x hj => ?_⟩
    have hc := h.cells (g := g) rfl j (.string x) (by rw [List.getElem?_map, hj]; rfl)
    rw [show (Addr.mk g 0 none).add j = ⟨g, j, none⟩ by unfold Addr.add; split <;> simp_all] at hc
    rw [Nat.zero_add]
    exact hc
end

/-! the text -/
def nv (l : Lab) : ByteArray := l.1 ++ oneS 61 ++ l.2
theorem join_body : ∀ x : List Lab, x ≠ [] → Lib.join ((x.map nv).map (·.data.toList)) [44] ++ [125] = bodyP (x.map labB)
  | [], h => absurd rfl h
  | [l], _ => by
    simp only [List.map_cons, List.map_nil, Lib.join_one, bodyP, nv, labB, app_data, oneS]
    simp
  | l :: m :: t, _ => by
    have ih := join_body (m :: t) (by simp)
    simp only [List.map_cons, Lib.join_cons, Lib.joinTail, List.map_cons, List.flatten_cons] at ih ⊢
    simp only [bodyP]
    rw [List.append_assoc, List.append_assoc, List.append_assoc, ← List.append_assoc (nv m).data.toList]
    rw [show ((nv m).data.toList ++ (List.map (fun x => [44] ++ x) (List.map (fun x => x.data.toList) (List.map nv t))).flatten) ++ [125] = _ from ih]
    simp only [nv, labB, app_data, oneS]
    simp
def joinS (x : List Lab) : ByteArray := ⟨(Lib.join ((x.map nv).map (·.data.toList)) (oneS 44).data.toList).toArray⟩
theorem join_full {n : ByteArray} {x : List Lab} (h : x ≠ []) : n ++ oneS 123 ++ joinS x ++ oneS 125 = fullS n x := by
  refine ByteArray.ext (Array.toList_inj.1 ?_)
  rw [full_bytes, if_neg h, ← join_body x h]
  simp only [app_data, oneS, joinS]
  simp

theorem bodyP_len : ∀ x : List Lab, (∀ l ∈ x, l.1.size ≤ 64 ∧ l.2.size ≤ 64) → (bodyP (x.map labB)).length ≤ 130 * x.length
  | [], _ => by simp [bodyP]
  | [l], h => by
    have := h l (List.mem_cons_self ..)
    simp [bodyP, labB]; omega
  | l :: m :: t, h => by
    have h1 := h l (List.mem_cons_self ..)
    have ih := bodyP_len (m :: t) fun a ha => h a (List.mem_cons_of_mem _ ha)
    simp only [List.map_cons] at ih ⊢
    rw [bodyP]
    simp [labB] at ih ⊢
    omega
theorem join_len {x : List Lab} (h : x ≠ []) (hz : ∀ l ∈ x, l.1.size ≤ 64 ∧ l.2.size ≤ 64) : (Lib.join ((x.map nv).map (·.data.toList)) (oneS 44).data.toList).length ≤ 130 * x.length := by
  have h1 := bodyP_len x hz
  rw [← join_body x h, List.length_append] at h1
  exact Nat.le_trans (Nat.le_add_right _ _) h1
theorem one_at (wr : World) (x : Value) (t : TypeId) (g : Nat) (hg : Hid (g = wr.heap.size)) : ∀ j u, [x][j]? = some u → (wr.alloc (.cells #[x] t)).cell? ((⟨g, 0, none⟩ : Addr).add j) = some u := by
  have := hg.out; subst this; exact one_val wr x t
set_option maxRecDepth 100000 in
theorem str8_info : (Tryz.prog.info? 9).map (fun i => (i.zero, i.size, i.bytes)) = some (some (.string ByteArray.empty), 1, 16) := by kernel_rfl
set_option maxRecDepth 100000 in
set_option maxHeartbeats 1000000 in
theorem text8_any (n : ByteArray) (u : Value) (x : List Lab) (w : World) (hx : Labs w w.heap.size u x) (hn : n.size ≤ 1000000) (hl : x.length ≤ 1000000) (hz : ∀ l ∈ x, l.1.size ≤ 1000000 ∧ l.2.size ≤ 1000000) :
    Calls Tryz.prog 16 #[.agg #[.string n, u]] w fun e w' => e = .returned (.string (textS n x)) ∧ Below w.heap.size w w' := by
  obtain ⟨i0, hi, hz0, hz1, hz2⟩ := info_parts str8_info
  obtain ⟨A0, c0, rfl⟩ := hx.len
  have hW : Below w.heap.size w (w.alloc (.cells #[.string n, .slice A0 x.length c0] 24)) := grew1 w _
  have aX := At2.new w (.string n) (.slice A0 x.length c0) 24
  have hWs := World.size_alloc w (.cells #[.string n, .slice A0 x.length c0] 24)
  have LX := Lib.hid hx
  have CR := Lib.hid (right8_any n (.slice A0 x.length c0) x (w.alloc (.cells #[.string n, .slice A0 x.length c0] 24)) ((hx.below hW).more hW.size) hn hl hz)
  clear hx hz
  obtain ⟨a0, a1, -, -⟩ := id aX
  by_cases hr : IsRight n x
  case neg =>
    have hE : Hid (textS n x = ByteArray.empty) := Lib.hid (by unfold textS; rw [if_neg hr])
    rw [decide_eq_false hr] at CR
    clear hr
    go_enter Tryz.func16, Tryz.ntmps16
    go_wp2_with fail
    refine (CR.out).mono ?_; rintro e w1 ⟨rfl, h1⟩
    have hB := hW.trans (h1.mono hW.size)
    go_wp2_with fail
    go_ret
    exact ⟨by rw [hE.out]; rfl, hB⟩
  have HT : Hid (textS n x = fullS n x) := Lib.hid (by unfold textS; rw [if_pos hr])
  have hn64 : n.size ≤ 64 := hr.1.2.1
  have h8 : x.length ≤ 8 := hr.2.1
  have HZ : Hid (∀ l ∈ x, l.1.size ≤ 64 ∧ l.2.size ≤ 64) := Lib.hid fun l hm => ⟨(hr.2.2.1 l hm).1.2.1, (hr.2.2.1 l hm).2.1⟩
  rw [decide_eq_true hr] at CR
  clear hr
  by_cases h0 : x = []
  · subst h0
    have hE : Hid (fullS n [] = n) := Lib.hid rfl
    go_enter Tryz.func16, Tryz.ntmps16
    go_wp2_with fail
    refine (CR.out).mono ?_; rintro e w1 ⟨rfl, h1⟩
    have hB := hW.trans (h1.mono hW.size)
    obtain ⟨b0, b1, -, -⟩ := aX.below h1
    clear a0 a1
    go_wp2_with fail
    go_ret
    exact ⟨by rw [HT.out, hE.out]; rfl, hB⟩
  have hlp : 0 < x.length := List.length_pos_iff.2 h0
  have hl0 : ((x.length : Int) == 0) = false := by simp; omega
  have HJL := Lib.hid (join_len h0 HZ.out)
  have HJ : Hid (n ++ oneS 123 ++ joinS x ++ oneS 125 = fullS n x) := Lib.hid (join_full h0)
  clear h0
  go_enter Tryz.func16, Tryz.ntmps16
  go_wp2_with fail
  refine (CR.out).mono ?_; rintro e w1 ⟨rfl, h1⟩
  have hB := hW.trans (h1.mono hW.size)
  have aX1 := aX.below h1
  have hs1 : w.heap.size + 1 ≤ w1.heap.size := by have := h1.size; omega
  obtain ⟨b0, b1, -, -⟩ := id aX1
  clear a0 a1 aX
  go_wp2_with fail
  clear b0 b1 CR
  go_loopw [3, 18] (fun o i wr => ∃ k : Nat, k ≤ x.length ∧ i = .int .i64 k ∧ OwnT 9 wr w1.heap.size o ((x.map nv).take k) ∧ Below w1.heap.size w1 wr) (fun _ i _ => x.length - (intOf i).toNat)
  case atStart => exact ⟨0, Nat.zero_le _, rfl, OwnT.nil_ _ _ _, Below.refl _ _⟩
  case round =>
    obtain ⟨k, hk, rfl, hown, hB1⟩ := hrel
    have hB2 := hB.trans (hB1.mono (by omega))
    by_cases hlt : k < x.length
    · obtain ⟨ax, rfl, hbx, hcx⟩ := (LX.out.below hB2).at_ (by omega)
      obtain ⟨x0, x1⟩ := hcx k hlt
      rw [add_next] at x1
      have j0 : (0 : Int) ≤ (k : Int) := by omega
      have j1 : (k : Int) < (x.length : Int) := by omega
      have hG := grew1 wr (.cells #[.string x[k].1, .string x[k].2] 45)
      obtain ⟨v0, v1, -, -⟩ := At2.new wr (.string x[k].1) (.string x[k].2) 45
      have hlen : ((x.map nv).take k).length = k := by rw [List.length_take, List.length_map]; omega
      have HS : Hid ((x.map nv).take (k + 1) = (x.map nv).take k ++ [x[k].1 ++ oneS 61 ++ x[k].2]) := Lib.hid (by rw [List.take_succ_eq_append_getElem (by rw [List.length_map]; exact hlt), List.getElem_map]; rfl)
      obtain ⟨z0, z1⟩ := HZ.out _ (List.getElem_mem hlt)
      clear hcx
      generalize x[k].1 = p0 at *
      generalize x[k].2 = p1 at *
      generalize (x.map nv).take k = ss at *
      have hown1 := hown.alloc_ (.cells #[.string p0, .string p1] 45)
      have hsz1 : w1.heap.size ≤ (wr.alloc (.cells #[.string p0, .string p1] 45)).heap.size := by have := hB1.size; have := hG.size; omega
      go_wp2_with (at_builtin; go_must (refine wpList_append_own _ rfl (.tmp 22) (.tmp 29) 79 rfl w1.heap.size 9 i0 (.string ByteArray.empty) 1 16 Tryz.underlying79 hi hz0 hz1 hz2 rfl (by decide) _ ss.length (ss.map Value.string) rfl (World.ownsRow.alloc hown1 _) ⟨wr.heap.size + 1, 0, none⟩ 1 1 [.string (p0 ++ oneS 61 ++ p1)] rfl rfl (one_at _ _ _ _ (Lib.hid (by simp))) (fun u hu => by simp at hu; subst hu; rfl) (by unfold maxLen; omega) (by omega) (by rw [World.size_alloc]; omega) ?_); intro v2 w2 hown2 hgrow2 _)
      obtain ⟨hO2, hb3⟩ := hown1.push hsz1 hown2 hgrow2
      rw [← HS.out] at hO2
      have hB3 := (hB1.alloc hB1.size (.cells #[.string p0, .string p1] 45)).trans hb3
      refine ⟨⟨k + 1, hlt, by go_num, hO2, hB3⟩, ?_⟩; simp [intOf]; omega
    · obtain rfl : k = x.length := by omega
      have j1 : ¬ (x.length : Int) < (x.length : Int) := by omega
      rw [show (x.map nv).take x.length = x.map nv from List.take_of_length_le (by simp)] at hown
      obtain ⟨g, c, eo, hg0, hg1, hgc, hcell⟩ := hown.form (by simpa using hlp)
      rw [List.length_map] at eo
      subst eo
      obtain ⟨b0, -, -, -⟩ := aX1.below hB1
      have CJ : Hid (∀ W, Below wr.heap.size wr W → Calls Tryz.prog 42 #[.slice (some ⟨g, 0, none⟩) x.length c, .string (oneS 44)] W fun e w' => e = .returned (.string (joinS x)) ∧ Below W.heap.size W w') := Lib.hid fun W h => by
        have := Tryz.strings_Join g 0 c (x.map nv) (oneS 44) W (fun j y hj => (h.cell (p := ⟨g, 0 + j, none⟩) hg1).trans (hcell j y hj)) (Nat.lt_of_lt_of_le hg1 h.size) (by simp; omega) hgc (Nat.le_trans HJL.out (by omega))
        rw [List.length_map] at this
        exact this
      have hjs : (joinS x).size ≤ 1040 := by
        have := HJL.out
        show (List.toArray _).size ≤ 1040
        rw [List.size_toArray]
        omega
      have HJ2 := Lib.hid (HT.out.trans HJ.out.symm)
      have hx1 : (n ++ oneS 123).size = n.size + 1 := by rw [ByteArray.size_append]; rfl
      have hx2 : (n ++ oneS 123 ++ joinS x).size = n.size + 1 + (joinS x).size := by rw [ByteArray.size_append, hx1]
      clear hcell hown HJL HZ HJ HT
      generalize joinS x = js at *
      unfold oneS at CJ HJ2 hx1 hx2
      go_wp2_with fail
      refine wp_region_held_drew (S := fun w' => w'.cell? ⟨w.heap.size, 0, none⟩ = some (.string n)) (by kernel_rfl) ?_ (fun hHeld => ?_)
      · exact b0
      refine take_at (i := 0) (d := some 32) (v := ?_) rfl rfl (by kernel_rfl) (by kernel_rfl) (by kernel_rfl) (fun _ _ _ h => h) (Or.inl ⟨by rfl, ?hyc1⟩) (by assumption) ?restc1
      case hyc1 => (intro w hSw; (try dsimp only at hSw); go_simp; try with_reducible rfl)
      (try simp only [Act.put]); (try simp only [List.setIfInBounds_toArray]); (try simp only [List.set_cons_succ]); (try simp only [List.set_cons_zero])
      refine take_at (i := 1) (d := some 33) (v := ?_) rfl rfl (by kernel_rfl) (by kernel_rfl) (by kernel_rfl) (fun _ _ _ h => h) (Or.inl ⟨by rfl, ?hyc2⟩) (by assumption) ?restc2
      case hyc2 => (intro w hSw; (try dsimp only at hSw); go_simp; try with_reducible rfl)
      (try simp only [Act.put]); (try simp only [List.setIfInBounds_toArray]); (try simp only [List.set_cons_succ]); (try simp only [List.set_cons_zero])
      refine take_at (i := 2) (d := some 34) (v := ?_) rfl rfl (by kernel_rfl) (by kernel_rfl) (by kernel_rfl) (fun _ _ _ h => h) (Or.inl ⟨by rfl, ?hyc3⟩) (by assumption) ?restc3
      case hyc3 => (intro w hSw; (try dsimp only at hSw); go_simp; rw [if_neg (by omega)])
      (try simp only [Act.put]); (try simp only [List.setIfInBounds_toArray]); (try simp only [List.set_cons_succ]); (try simp only [List.set_cons_zero])
      refine take_at (i := 3) (d := some 35) (v := ?_) rfl rfl (by kernel_rfl) (by kernel_rfl) (by kernel_rfl) (fun _ _ _ h => h) (Or.inl ⟨by rfl, ?hyc4⟩) (by assumption) ?restc4
      case hyc4 => (intro w hSw; (try dsimp only at hSw); go_simp; try with_reducible rfl)
      (try simp only [Act.put]); (try simp only [List.setIfInBounds_toArray]); (try simp only [List.set_cons_succ]); (try simp only [List.set_cons_zero])
      refine wpAnyH_ready (rs := [4]) (by kernel_rfl) (by simp) ?_
      refine AllReadyH.cons rfl (fun K hK => ?_) AllReadyH.nil
      go_simp
      refine (CJ.out _ ?hbq).mono ?_
      case hbq => first | exact below_drewN (Below.refl wr.heap.size wr) 1 | exact ext_drew (Below.refl wr.heap.size wr)
      rintro e1 w3 ⟨rfl, hb3⟩
      try go_wp2_with fail
      refine hK.out _ _ ?_ (fun hHeld => ?_)
      · exact (hb3.cell (p := ⟨w.heap.size, 0, none⟩) (by have := hB2.size; have := hB1.size; show w.heap.size < wr.heap.size; omega)).trans b0
      clear hK K
      (try simp only [Act.put]); (try simp only [List.setIfInBounds_toArray]); (try simp only [List.set_cons_succ]); (try simp only [List.set_cons_zero])
      refine take_at (i := 5) (d := some 37) (v := ?_) rfl rfl (by kernel_rfl) (by kernel_rfl) (by kernel_rfl) (fun _ _ _ h => h) (Or.inl ⟨by rfl, ?hyc5⟩) (by assumption) ?restc5
      case hyc5 => (intro w hSw; (try dsimp only at hSw); go_simp; rw [if_neg (by omega)])
      (try simp only [Act.put]); (try simp only [List.setIfInBounds_toArray]); (try simp only [List.set_cons_succ]); (try simp only [List.set_cons_zero])
      refine take_at (i := 6) (d := some 38) (v := ?_) rfl rfl (by kernel_rfl) (by kernel_rfl) (by kernel_rfl) (fun _ _ _ h => h) (Or.inl ⟨by rfl, ?hyc6⟩) (by assumption) ?restc6
      case hyc6 => (intro w hSw; (try dsimp only at hSw); go_simp; rw [if_neg (by omega)])
      (try simp only [Act.put]); (try simp only [List.setIfInBounds_toArray]); (try simp only [List.set_cons_succ]); (try simp only [List.set_cons_zero])
      refine take_at (i := 7) (d := some 2) (v := ?_) rfl rfl (by kernel_rfl) (by kernel_rfl) (by kernel_rfl) (fun _ _ _ h => h) (Or.inl ⟨by rfl, ?hyc7⟩) (by assumption) ?restc7
      case hyc7 => (intro w hSw; (try dsimp only at hSw); go_simp; try with_reducible rfl)
      (try simp only [Act.put]); (try simp only [List.setIfInBounds_toArray]); (try simp only [List.set_cons_succ]); (try simp only [List.set_cons_zero])
      refine wpAnyH_done (by kernel_rfl) ?_ _
      have hB4 := hB2.trans ((below_drewN (Below.refl wr.heap.size wr) 1).trans hb3 |>.mono hB2.size)
      go_wp2_with fail
      go_ret
      exact ⟨by rw [HJ2.out]; rfl, hB4⟩
end
end Go.Proofs.YteiilmnehdbdiaaGreatDoor
