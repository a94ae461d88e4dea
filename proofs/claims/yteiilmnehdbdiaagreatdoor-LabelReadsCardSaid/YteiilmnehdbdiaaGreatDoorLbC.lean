/- Package label: the order of labels and of series, the value of a name, walked. -/
import Derived.Test.YteiilmnehdbdiaaGreatDoorLbR
namespace Go.Proofs.YteiilmnehdbdiaaGreatDoor

section
open Go.RowKit

theorem cmpBytes_eq : ∀ a b : List UInt8, Lib.compareBytes a b = if Op.bytesLess a b = true then -1 else if Op.bytesLess b a = true then 1 else 0
  | [], [] => rfl
  | [], _ :: _ => rfl
  | _ :: _, [] => rfl
  | a :: x, b :: y => by
    have ih := cmpBytes_eq x y
    unfold Lib.compareBytes Op.bytesLess
    rw [ih]
    by_cases h1 : a < b
    · simp [h1]
    · by_cases h2 : b < a
      · have hn : ¬ a = b := fun e => by subst e; exact h1 h2
        simp [h1, h2, hn]
      · obtain rfl : a = b := UInt8.le_antisymm (UInt8.not_lt.1 h2) (UInt8.not_lt.1 h1)
        simp
theorem cmpBytes_ord (a b : ByteArray) : Lib.compareBytes a.data.toList b.data.toList = ordS a b := by
  rw [cmpBytes_eq, ← ByteArray.toList_eq, ← ByteArray.toList_eq]; rfl
theorem order8_any (a b : ByteArray) (w : World) : Calls Tryz.prog 55 #[.string a, .string b] w fun e w' => e = .returned (.int .i64 (ordS a b)) ∧ w' = w := by
  have := Tryz.strings_Compare a b w
  rw [cmpBytes_ord] at this
  exact this
def ordL (l m : Lab) : Int := if ordS l.1 m.1 ≠ 0 then ordS l.1 m.1 else ordS l.2 m.2

set_option maxRecDepth 100000 in
set_option maxHeartbeats 1000000 in
theorem lcompare8_any (a b c d : ByteArray) (w : World) :
    Calls Tryz.prog 37 #[.agg #[.string a, .string b], .agg #[.string c, .string d]] w fun e w' => e = .returned (.int .i64 (ordL (a, b) (c, d))) ∧ ∃ os, w' = Sort.grow w os := by
  have CO := Lib.hid order8_any
  obtain ⟨a0, a1, -, -⟩ := (At2.new w (.string a) (.string b) 45).alloc (.cells #[.string c, .string d] 45)
  have B0 := At2.new (w.alloc (.cells #[.string a, .string b] 45)) (.string c) (.string d) 45
  rw [World.size_alloc] at B0
  obtain ⟨b0, b1, -, -⟩ := B0
  have HW : Hid (∃ os, (w.alloc (.cells #[.string a, .string b] 45)).alloc (.cells #[.string c, .string d] 45) = Sort.grow w os) := Lib.hid ⟨_, by rw [Sort.alloc_eq_grow, Sort.alloc_eq_grow, Sort.grow_grow]⟩
  by_cases h : ordS a c = 0
  · have hE : Hid (ordL (a, b) (c, d) = ordS b d) := Lib.hid (by unfold ordL; rw [if_neg (by simpa using h)])
    go_enter Tryz.func37, Tryz.ntmps37
    go_wp2_with fail
    refine (CO.out _ _ _).mono ?_; rintro e w1 ⟨rfl, rfl⟩
    go_wp2_with fail
    refine (CO.out _ _ _).mono ?_; rintro e w1 ⟨rfl, rfl⟩
    go_wp2_with fail
    go_ret
    exact ⟨by rw [hE.out]; rfl, HW.out⟩
  · have hE : Hid (ordL (a, b) (c, d) = ordS a c) := Lib.hid (by unfold ordL; rw [if_pos h])
    have h0 : (ordS a c == 0) = false := by simpa using h
    go_enter Tryz.func37, Tryz.ntmps37
    go_wp2_with fail
    refine (CO.out _ _ _).mono ?_; rintro e w1 ⟨rfl, rfl⟩
    go_wp2_with fail
    go_ret
    exact ⟨by rw [hE.out]; rfl, HW.out⟩

theorem below_grow (w : World) (os : Array Obj) : Below w.heap.size w (Sort.grow w os) := by
  refine ⟨rfl, rfl, rfl, ?_, fun k hk => ?_⟩
  · unfold Sort.grow; simp
  · show (w.heap ++ os)[k]? = w.heap[k]?
    rw [Array.getElem?_append, if_pos hk]
theorem cmpL_ord (a b : Lab) (x y : List Lab) : cmpL (a :: x) (b :: y) = if ordL a b ≠ 0 then ordL a b else cmpL x y := by
  rw [cmpL]
  unfold ordL
  by_cases h : ordS a.1 b.1 = 0
  · simp [h]
  · simp [h]
set_option maxRecDepth 100000 in
set_option maxHeartbeats 2000000 in
theorem cmpFunc8_any (u v : Value) (x y : List Lab) (w : World) (hx : Labs w w.heap.size u x) (hy : Labs w w.heap.size v y) (nx : x.length ≤ 1000000) (ny : y.length ≤ 1000000) :
    Calls Tryz.prog 56 #[u, v, .func (.func 37) #[] #[]] w fun e w' => e = .returned (.int .i64 (cmpL x y)) ∧ Below w.heap.size w w' := by
  have eg : ∀ args w, (callFunc 37 args).run Tryz.prog w = .ok (.enter 37 args) w := enters_of Tryz.func37 (by kernel_rfl) rfl
  obtain ⟨A0, c0, rfl⟩ := hx.len
  obtain ⟨A1, c1, rfl⟩ := hy.len
  have LX := Lib.hid hx
  have LY := Lib.hid hy
  have CC := Lib.hid fun a b c d W => lcompare8_any a b c d W
  clear hx hy
  go_enter Tryz.func56, Tryz.ntmps56
  go_wp2_with fail
  go_loopw [13] (fun i wr => ∃ k : Nat, Below w.heap.size w wr ∧ k ≤ x.length ∧ k ≤ y.length ∧ i = .int .i64 k ∧ Hid (cmpL x y = cmpL (x.drop k) (y.drop k))) (fun i _ => x.length - (intOf i).toNat)
  case atStart => exact ⟨0, Below.refl _ _, Nat.zero_le _, Nat.zero_le _, rfl, Lib.hid rfl⟩
  case round =>
    obtain ⟨k, hW, hkx, hky, rfl, hz⟩ := hrel
    by_cases hx1 : k < x.length
    · obtain ⟨ax, rfl, hbx, hcx⟩ := (LX.out.below hW).at_ (by omega)
      obtain ⟨x0, x1⟩ := hcx k hx1
      rw [add_next] at x1
      have i1 : (k : Int) < (x.length : Int) := by omega
      have i0 : (0 : Int) ≤ (k : Int) := by omega
      by_cases hy1 : k < y.length
      · have i2 : ¬ (y.length : Int) ≤ (k : Int) := by omega
        have i3 : (k : Int) < (y.length : Int) := by omega
        obtain ⟨ay, rfl, hby, hcy⟩ := (LY.out.below (hW.trans ((grew1 wr (.cells #[.string x[k].1, .string x[k].2] 45)).mono hW.size))).at_ (by omega)
        have hG := grew1 wr (.cells #[.string x[k].1, .string x[k].2] 45)
        have hG2 := grew2 wr (.cells #[.string x[k].1, .string x[k].2] 45) (.cells #[.string y[k].1, .string y[k].2] 45)
        obtain ⟨v0, v1, -, -⟩ := (At2.new wr (.string x[k].1) (.string x[k].2) 45).alloc (.cells #[.string y[k].1, .string y[k].2] 45)
        have aY := At2.new (wr.alloc (.cells #[.string x[k].1, .string x[k].2] 45)) (.string y[k].1) (.string y[k].2) 45
        rw [World.size_alloc] at aY
        obtain ⟨w0, w1, -, -⟩ := aY
        obtain ⟨y0, y1⟩ := hcy k hy1
        rw [add_next] at y1
        have hN : Hid (cmpL x y = if ordL (x[k].1, x[k].2) (y[k].1, y[k].2) ≠ 0 then ordL (x[k].1, x[k].2) (y[k].1, y[k].2) else cmpL (x.drop (k + 1)) (y.drop (k + 1))) := Lib.hid (by rw [hz.out, List.drop_eq_getElem_cons hx1, List.drop_eq_getElem_cons hy1, cmpL_ord])
        clear hz hcx hcy
        generalize x[k].1 = p0 at *
        generalize x[k].2 = p1 at *
        generalize y[k].1 = q0 at *
        generalize y[k].2 = q1 at *
        go_wp2_with fail
        refine (CC.out _ _ _ _ _).mono ?_; rintro e w2 ⟨rfl, hos⟩
        generalize ordL (p0, p1) (q0, q1) = z at *
        have hB2 : Below w.heap.size w w2 := by
          obtain ⟨os, rfl⟩ := hos
          exact hW.trans ((hG2.trans ((below_grow _ os).mono hG2.size)).mono hW.size)
        clear hos
        by_cases h0 : z = 0
        · subst h0
          have hN2 : Hid (cmpL x y = cmpL (x.drop (k + 1)) (y.drop (k + 1))) := Lib.hid (by rw [hN.out, if_neg (by simp)])
          go_wp2_with fail
          go_roundw
          case rel => exact ⟨k + 1, hB2, hx1, hy1, by go_num, hN2⟩
          case measure => simp [intOf]; omega
        · have hE : Hid (cmpL x y = z) := Lib.hid (by rw [hN.out, if_pos h0])
          have h00 : (z == 0) = false := by simpa using h0
          go_wp2_with fail
          go_ret
          exact ⟨by rw [hE.out]; rfl, hB2⟩
      · have hE : Hid (cmpL x y = 1) := Lib.hid (by rw [hz.out, show y.drop k = [] from List.drop_eq_nil_of_le (by omega), List.drop_eq_getElem_cons hx1]; rfl)
        have i2 : (y.length : Int) ≤ (k : Int) := by omega
        have hG := grew1 wr (.cells #[.string x[k].1, .string x[k].2] 45)
        clear hz hcx
        generalize x[k].1 = p0 at *
        generalize x[k].2 = p1 at *
        go_wp2_with fail
        go_ret
        exact ⟨by rw [hE.out]; rfl, hW.trans (hG.mono hW.size)⟩
    · have i1 : ¬ (k : Int) < (x.length : Int) := by omega
      by_cases hy1 : k < y.length
      · have hE : Hid (cmpL x y = -1) := Lib.hid (by rw [hz.out, show x.drop k = [] from List.drop_eq_nil_of_le (by omega), List.drop_eq_getElem_cons hy1]; rfl)
        have i2 : (x.length : Int) < (y.length : Int) := by omega
        go_wp2_with fail
        go_ret
        exact ⟨by rw [hE.out]; rfl, hW⟩
      · have hE : Hid (cmpL x y = 0) := Lib.hid (by rw [hz.out, show x.drop k = [] from List.drop_eq_nil_of_le (by omega), show y.drop k = [] from List.drop_eq_nil_of_le (by omega)]; rfl)
        have i2 : ¬ (x.length : Int) < (y.length : Int) := by omega
        go_wp2_with fail
        go_ret
        exact ⟨by rw [hE.out]; rfl, hW⟩

set_option maxRecDepth 100000 in
set_option maxHeartbeats 1000000 in
theorem compare8_any (n m : ByteArray) (u v : Value) (x y : List Lab) (w : World) (hx : Labs w w.heap.size u x) (hy : Labs w w.heap.size v y) (nx : x.length ≤ 1000000) (ny : y.length ≤ 1000000) :
    Calls Tryz.prog 31 #[.agg #[.string n, u], .agg #[.string m, v]] w fun e w' => e = .returned (.int .i64 (cmpI n m x y)) ∧ Below w.heap.size w w' := by
  obtain ⟨A0, c0, rfl⟩ := hx.len
  obtain ⟨A1, c1, rfl⟩ := hy.len
  have CO := Lib.hid order8_any
  have hW : Below w.heap.size w ((w.alloc (.cells #[.string n, .slice A0 x.length c0] 24)).alloc (.cells #[.string m, .slice A1 y.length c1] 24)) := grew2 w _ _
  have aX := (At2.new w (.string n) (.slice A0 x.length c0) 24).alloc (.cells #[.string m, .slice A1 y.length c1] 24)
  have aY := At2.new (w.alloc (.cells #[.string n, .slice A0 x.length c0] 24)) (.string m) (.slice A1 y.length c1) 24
  rw [World.size_alloc] at aY
  have C2 : Hid (∀ W, Below w.heap.size w W → _) := Lib.hid fun W h => cmpFunc8_any (.slice A0 x.length c0) (.slice A1 y.length c1) x y W ((hx.below h).more h.size) ((hy.below h).more h.size) nx ny
  clear hx hy
  obtain ⟨a0, a1, -, -⟩ := aX
  obtain ⟨b0, b1, -, -⟩ := aY
  by_cases h : ordS n m = 0
  · have hE : Hid (cmpI n m x y = cmpL x y) := Lib.hid (by unfold cmpI; rw [if_neg (by simpa using h)])
    go_enter Tryz.func31, Tryz.ntmps31
    go_wp2_with fail
    refine (CO.out _ _ _).mono ?_; rintro e w1 ⟨rfl, rfl⟩
    go_wp2_with fail
    refine (C2.out _ hW).mono ?_; rintro e w1 ⟨rfl, h1⟩
    have hB := hW.trans (h1.mono hW.size)
    go_wp2_with fail
    go_ret
    exact ⟨by rw [hE.out]; rfl, hB⟩
  · have hE : Hid (cmpI n m x y = ordS n m) := Lib.hid (by unfold cmpI; rw [if_pos h])
    have h0 : (ordS n m == 0) = false := by simpa using h
    go_enter Tryz.func31, Tryz.ntmps31
    go_wp2_with fail
    refine (CO.out _ _ _).mono ?_; rintro e w1 ⟨rfl, rfl⟩
    go_wp2_with fail
    go_ret
    exact ⟨by rw [hE.out]; rfl, hW⟩
end

section
open Go.RowKit

theorem getL_next {x : List Lab} {k : Nat} (h : k < x.length) (s : ByteArray) : getL (x.drop k) s = if x[k].1 = s then some x[k].2 else getL (x.drop (k + 1)) s := by
  rw [List.drop_eq_getElem_cons h]
  unfold getL
  rw [List.find?_cons]
  by_cases e : x[k].1 = s
  · rw [if_pos e]; simp [e]
  · rw [if_neg e]; simp [e]
set_option maxRecDepth 100000 in
set_option maxHeartbeats 2000000 in
theorem get8_any (n : ByteArray) (u : Value) (x : List Lab) (s : ByteArray) (w : World) (hx : Labs w w.heap.size u x) (hl : x.length ≤ 1000000) :
    Calls Tryz.prog 21 #[.agg #[.string n, u], .string s] w fun e w' => e = .returned (.tuple #[.string ((getL x s).getD ByteArray.empty), .bool (getL x s).isSome]) ∧ Below w.heap.size w w' := by
  obtain ⟨A0, c0, rfl⟩ := hx.len
  have hW0 : Below w.heap.size w (w.alloc (.cells #[.string n, .slice A0 x.length c0] 24)) := grew1 w _
  obtain ⟨a0, a1, -, -⟩ := At2.new w (.string n) (.slice A0 x.length c0) 24
  have LX := Lib.hid (hx.below hW0)
  clear hx
  go_enter Tryz.func21, Tryz.ntmps21
  go_wp2_with fail
  generalize w.alloc (.cells #[.string n, .slice A0 x.length c0] 24) = W at *
  go_loopw [11] (fun i wr => ∃ k : Nat, Below w.heap.size w wr ∧ Below w.heap.size W wr ∧ k ≤ x.length ∧ i = .int .i64 k ∧ Hid (getL x s = getL (x.drop k) s)) (fun i _ => x.length - (intOf i).toNat)
  case atStart => exact ⟨0, hW0, Below.refl _ _, Nat.zero_le _, rfl, Lib.hid rfl⟩
  case round =>
    obtain ⟨k, hW, hW2, hk, rfl, hz⟩ := hrel
    by_cases hlt : k < x.length
    · obtain ⟨ax, rfl, hbx, hcx⟩ := (LX.out.below hW2).at_ (by omega)
      obtain ⟨x0, x1⟩ := hcx k hlt
      rw [add_next] at x1
      have j0 : (0 : Int) ≤ (k : Int) := by omega
      have j1 : (k : Int) < (x.length : Int) := by omega
      have hG := ext_alloc hW (.cells #[.string x[k].1, .string x[k].2] 45)
      have hG2 := hW2.alloc (Nat.le_trans hW.size (Nat.le_refl _)) (.cells #[.string x[k].1, .string x[k].2] 45)
      obtain ⟨v0, v1, -, -⟩ := At2.new wr (.string x[k].1) (.string x[k].2) 45
      have HN := Lib.hid (hz.out.trans (getL_next hlt s))
      clear hcx hz
      generalize x[k].1 = p0 at *
      generalize x[k].2 = p1 at *
      by_cases e : p0 = s
      · have hE : Hid (getL x s = some p1) := Lib.hid (by rw [HN.out, if_pos e])
        clear HN
        have e1 : (p0.toList == s.toList) = true := by rw [e]; exact beq_self_eq_true _
        go_wp2_with fail
        go_ret2
        rw [e] at hG
        exact ⟨by rw [hE.out]; rfl, hG⟩
      · have HN2 : Hid (getL x s = getL (x.drop (k + 1)) s) := Lib.hid (by rw [HN.out, if_neg e])
        have e1 : (p0.toList == s.toList) = false := by
          rw [beq_eq_false_iff_ne]
          exact fun h => e (toList_one.1 h)
        clear HN
        go_wp2_with fail
        go_roundw
        case rel => exact ⟨k + 1, hG, hG2, hlt, by go_num, HN2⟩
        case measure => simp [intOf]; omega
    · have hE : Hid (getL x s = none) := Lib.hid (by rw [hz.out, List.drop_eq_nil_of_le (by omega)]; rfl)
      have i1 : ¬ (k : Int) < (x.length : Int) := by omega
      go_wp2_with fail
      go_ret2
      exact ⟨by rw [hE.out]; rfl, hW⟩
end
end Go.Proofs.YteiilmnehdbdiaaGreatDoor
