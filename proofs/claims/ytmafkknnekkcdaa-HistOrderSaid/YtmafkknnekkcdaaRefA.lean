/- Rows of limbs, walked: the limb at a place, a row without noughts at the top, which of two rows is the greater. -/
import Derived.Test.YtmafkknnekkcdaaRows
import Derived.Test.YtmafkknnekkcdaaLimbs
import Derived.WalkSpells
import Derived.WalkLawsBesides
import Derived.BigQuiet
import Derived.Deep.DeepFit
import Derived.Deep.CutBlock
import Derived.Deep.DeepCutAuto
import Derived.IntWalk
namespace Go.Proofs.Ytmafkknnekkcdaa
open Go.RowKit

/-- A row of limbs in memory, below a block. -/
def RowB (w : World) (B : Nat) (v : Value) (xs : List Int) : Prop := Lst w B .i64 v xs ∧ Digs xs
abbrev RowV (w : World) (v : Value) (xs : List Int) : Prop := RowB w w.heap.size v xs
/-- A whole number without a sign in memory: its limbs, none above the highest that isn't 0. -/
def NatB (w : World) (B : Nat) (v : Value) (m : Int) : Prop := ∃ xs, RowB w B v xs ∧ Norm xs ∧ val xs = m
abbrev NatV (w : World) (v : Value) (m : Int) : Prop := NatB w w.heap.size v m
theorem RowB.keep {w w' : World} {B B' : Nat} {v : Value} {xs : List Int} (h : RowB w B v xs) (hk : ∀ p : Addr, p.block < B → w'.cell? p = w.cell? p) (hB : B ≤ B') : RowB w' B' v xs := ⟨(h.1.keep hk).more hB, h.2⟩
theorem RowB.below {w w' : World} {v : Value} {xs : List Int} (h : RowB w w.heap.size v xs) (hb : Below w.heap.size w w') : RowB w' w'.heap.size v xs := h.keep (fun _ hp => hb.cell hp) hb.size
theorem NatB.keep {w w' : World} {B B' : Nat} {v : Value} {m : Int} (h : NatB w B v m) (hk : ∀ p : Addr, p.block < B → w'.cell? p = w.cell? p) (hB : B ≤ B') : NatB w' B' v m := by
  obtain ⟨xs, hr, hn⟩ := h
  exact ⟨xs, hr.keep hk hB, hn⟩
theorem NatB.below {w w' : World} {v : Value} {m : Int} (h : NatB w w.heap.size v m) (hb : Below w.heap.size w w') : NatB w' w'.heap.size v m := h.keep (fun _ hp => hb.cell hp) hb.size
theorem NatB.store {w : World} {B : Nat} {v : Value} {m : Int} {p : Addr} {x : Value} (h : NatB w B v m) (hx : w.cell? p = some x) (hk : ∀ n, x ≠ .int .i64 n) (y : Value) : NatB (w.setCell p y) B v m := by
  obtain ⟨xs, hr, hn⟩ := h
  exact ⟨xs, ⟨hr.1.store hx hk y, hr.2⟩, hn⟩
theorem NatB.form {w : World} {B : Nat} {v : Value} {m : Int} (h : NatB w B v m) : ∃ A n c, v = .slice A n c := by
  obtain ⟨xs, hr, hn⟩ := h
  obtain ⟨A, c, e⟩ := hr.1.len
  exact ⟨A, _, c, e⟩
theorem NatB.nonneg {w : World} {B : Nat} {v : Value} {m : Int} (h : NatB w B v m) : 0 ≤ m := by
  obtain ⟨xs, hr, hn, rfl⟩ := h
  exact hr.2.bd.1

set_option maxRecDepth 100000 in
set_option maxHeartbeats 400000 in
theorem limb_any (v : Value) (xs : List Int) (i : Int) (w : World) (h : RowV w v xs) (h0 : 0 ≤ i) (h1 : i ≤ 9223372036854775807) (hn : xs.length ≤ 1000000) :
    Calls Try.prog 53 #[v, .int .i64 i] w fun e w' => e = .returned (.int .i64 (dig xs i.toNat)) ∧ w = w' := by
  obtain ⟨⟨A, c, rfl, hc, hr⟩, hd⟩ := h
  clear hd
  obtain ⟨k, rfl⟩ := Int.eq_ofNat_of_zero_le h0
  rw [Int.toNat_natCast]
  by_cases hk : k < xs.length
  · obtain ⟨ad, rfl, hb, hcell⟩ := hr (by omega)
    have hck := hcell k hk
    rw [← dig_at hk] at hck
    generalize dig xs k = x at *
    clear hcell hr hb
    go_enter Try.func53, Try.ntmps53
    go_wp2_with fail
    go_ret
    exact ⟨rfl, rfl⟩
  · rw [dig_above (by omega)]
    clear hr
    go_enter Try.func53, Try.ntmps53
    go_wp2_with fail
    go_ret
    exact ⟨rfl, rfl⟩

/-- What a cut row answers. -/
def Cut (w : World) (B : Nat) (m : Int) (e : Ending) (w' : World) : Prop := ∃ v, e = .returned v ∧ NatB w B v m ∧ w = w'

theorem val_cut {xs : List Int} {n : Nat} (h : n ≤ xs.length) (hz : ∀ j, n ≤ j → dig xs j = 0) : val (xs.take n) = val xs := by
  rw [val_take xs h]; exact (sumD_more h hz).symm

theorem Cut.of {w : World} {B : Nat} {A : Option Addr} {n c k : Nat} {xs : List Int} (h : RowB w B (.slice A n c) xs) (hk : k ≤ xs.length) (hz : ∀ j, k ≤ j → dig xs j = 0) (ht : 0 < k → dig xs (k - 1) ≠ 0) :
    NatB w B (.slice A k c) (val xs) := by
  have hl : (xs.take k).length = k := by rw [List.length_take]; omega
  refine ⟨xs.take k, ⟨h.1.cut hk, h.2.take k⟩, fun hn => ?_, val_cut hk hz⟩
  rw [hl] at hn ⊢
  have e : dig (xs.take k) (k - 1) = dig xs (k - 1) := by unfold dig; simp [show k - 1 < k by omega]
  rw [e]; exact ht hn

set_option maxRecDepth 100000 in
set_option maxHeartbeats 400000 in
theorem trim_any (v : Value) (xs : List Int) (w : World) (B : Nat) (h : RowB w B v xs) (hn : xs.length ≤ 1000000) :
    Calls Try.prog 52 #[v] w (Cut w B (val xs)) := by
  have H := Lib.hid h
  obtain ⟨⟨A, c, rfl, hc, hr⟩, hd⟩ := h
  have HR := Lib.hid hr
  clear hr hd
  go_enter Try.func52, Try.ntmps52
  go_wp2_with fail
  go_loop [3] (fun n => ∃ k : Nat, k ≤ xs.length ∧ n = .int .i64 k ∧ Hid (∀ j, k ≤ j → dig xs j = 0)) (fun n => (intOf n).toNat)
  case atStart => exact ⟨xs.length, Nat.le_refl _, rfl, Lib.hid fun j hj => dig_above hj⟩
  case round =>
    obtain ⟨k, hk, rfl, hz⟩ := hrel
    by_cases h0 : 0 < k
    · obtain ⟨ad, rfl, hb, hcell⟩ := HR.out (by omega)
      have hck := hcell (k - 1) (by omega)
      rw [← dig_at (show k - 1 < xs.length by omega)] at hck
      clear hcell hb
      by_cases hd : dig xs (k - 1) = 0
      · have hd' : (dig xs (k - 1) == 0) = true := by simpa using hd
        have HD := Lib.hid hd
        clear hd
        go_wp2_with fail
        go_round
        case rel =>
          refine ⟨k - 1, by omega, by go_num, Lib.hid fun j hj => ?_⟩
          by_cases e : j = k - 1
          · rw [e]; exact HD.out
          · exact hz.out j (by omega)
        case measure => simp [intOf]; omega
      · have hd' : (dig xs (k - 1) == 0) = false := by simpa using hd
        go_wp2_with fail
        go_ret
        exact ⟨_, rfl, Cut.of H.out hk hz.out (fun _ => hd), rfl⟩
    · go_wp2_with fail
      go_ret
      exact ⟨_, rfl, Cut.of H.out hk hz.out (fun h => absurd h h0), rfl⟩

/-- Which is the greater. -/
def cmpI (m n : Int) : Int := if n < m then 1 else if m < n then -1 else 0
theorem cmp_gt {xs ys : List Int} (hx : Digs xs) (hy : Digs ys) {k n : Nat} (hxn : xs.length ≤ n) (hyn : ys.length ≤ n) (hk : k < n) (he : ∀ j, k < j → dig xs j = dig ys j) (h : dig ys k < dig xs k) : cmpI (val xs) (val ys) = 1 := by
  have := sumD_lt hy.at_ hx.at_ h hk (fun j h1 _ => (he j h1).symm)
  rw [val_more hxn, val_more hyn] at this
  exact if_pos this
theorem cmp_lt {xs ys : List Int} (hx : Digs xs) (hy : Digs ys) {k n : Nat} (hxn : xs.length ≤ n) (hyn : ys.length ≤ n) (hk : k < n) (he : ∀ j, k < j → dig xs j = dig ys j) (h : dig xs k < dig ys k) : cmpI (val xs) (val ys) = -1 := by
  have := sumD_lt hx.at_ hy.at_ h hk (fun j h1 _ => he j h1)
  rw [val_more hxn, val_more hyn] at this
  unfold cmpI
  rw [if_neg (by omega), if_pos this]
theorem cmp_eq {xs ys : List Int} (he : ∀ j, dig xs j = dig ys j) : cmpI (val xs) (val ys) = 0 := by
  have : val xs = val ys := by
    rw [← val_more (Nat.le_max_left xs.length ys.length), ← val_more (Nat.le_max_right xs.length ys.length)]
    exact sumD_ext fun j _ => he j
  unfold cmpI
  rw [this]; simp

set_option maxRecDepth 100000 in
set_option maxHeartbeats 1000000 in
theorem above_any (v u : Value) (m n : Int) (w : World) (L : Nat) (hv : NatV w v m) (hu : NatV w u n) (hm : m < 65536 ^ L) (hn : n < 65536 ^ L) (hL : L ≤ 100000) :
    Calls Try.prog 36 #[v, u] w fun e w' => e = .returned (.int .i64 (cmpI m n)) ∧ w = w' := by
  obtain ⟨xs, hx, hxn, rfl⟩ := hv
  obtain ⟨ys, hy, hyn, rfl⟩ := hu
  have lx := hxn.len hx.2 hm
  have ly := hyn.len hy.2 hn
  have CX := Lib.hid (fun i h0 h1 => limb_any v xs i w hx h0 h1 (by omega))
  have CY := Lib.hid (fun i h0 h1 => limb_any u ys i w hy h0 h1 (by omega))
  have DX := Lib.hid hx.2
  have DY := Lib.hid hy.2
  obtain ⟨A, c, rfl⟩ := hx.1.len
  obtain ⟨A', c', rfl⟩ := hy.1.len
  clear hx hy hxn hyn hm hn
  rcases Nat.lt_or_ge xs.length ys.length with hle | hle
  all_goals
    go_enter Try.func36, Try.ntmps36
    go_wp2_with fail
    go_loop [5] (fun n => ∃ k : Int, -1 ≤ k ∧ k < max xs.length ys.length ∧ n = .int .i64 k ∧ Hid (∀ j : Nat, k < j → dig xs j = dig ys j)) (fun n => (intOf n + 1).toNat)
    case atStart => exact ⟨_, by omega, by omega, rfl, Lib.hid fun j hj => by rw [dig_above (by omega), dig_above (by omega)]⟩
    case round =>
      obtain ⟨k, hk0, hk1, rfl, he⟩ := hrel
      by_cases h0 : 0 ≤ k
      · have cx := CX.out k h0 (by omega)
        have cy := CY.out k h0 (by omega)
        have HX := Lib.hid cx
        have HY := Lib.hid cy
        clear cx cy
        obtain ⟨kn, hkn⟩ := Int.eq_ofNat_of_zero_le h0
        have e : k.toNat = kn := by omega
        by_cases h1 : dig ys k.toNat < dig xs k.toNat
        · have R := Lib.hid (cmp_gt DX.out DY.out (Nat.le_max_left _ _) (Nat.le_max_right _ _) (show k.toNat < max xs.length ys.length by omega) (fun j hj => he.out j (by omega)) h1)
          clear hkn e
          go_wp2_with fail
          refine (HX.out).mono ?_; rintro e w' ⟨rfl, rfl⟩
          go_wp2_with fail
          refine (HY.out).mono ?_; rintro e w' ⟨rfl, rfl⟩
          go_wp2_with fail
          go_ret
          exact ⟨ret_one R.out.symm, rfl⟩
        · by_cases h2 : dig xs k.toNat < dig ys k.toNat
          · have R := Lib.hid (cmp_lt DX.out DY.out (Nat.le_max_left _ _) (Nat.le_max_right _ _) (show k.toNat < max xs.length ys.length by omega) (fun j hj => he.out j (by omega)) h2)
            clear hkn e
            go_wp2_with fail
            refine (HX.out).mono ?_; rintro e w' ⟨rfl, rfl⟩
            go_wp2_with fail
            refine (HY.out).mono ?_; rintro e w' ⟨rfl, rfl⟩
            go_wp2_with fail
            refine (HX.out).mono ?_; rintro e w' ⟨rfl, rfl⟩
            go_wp2_with fail
            refine (HY.out).mono ?_; rintro e w' ⟨rfl, rfl⟩
            go_wp2_with fail
            go_ret
            exact ⟨ret_one R.out.symm, rfl⟩
          · clear hkn e
            go_wp2_with fail
            refine (HX.out).mono ?_; rintro e w' ⟨rfl, rfl⟩
            go_wp2_with fail
            refine (HY.out).mono ?_; rintro e w' ⟨rfl, rfl⟩
            go_wp2_with fail
            refine (HX.out).mono ?_; rintro e w' ⟨rfl, rfl⟩
            go_wp2_with fail
            refine (HY.out).mono ?_; rintro e w' ⟨rfl, rfl⟩
            go_wp2_with fail
            go_round
            case rel =>
              refine ⟨k - 1, by omega, by omega, rfl, Lib.hid fun j hj => ?_⟩
              by_cases e : j = k.toNat
              · rw [e]; omega
              · exact he.out j (by omega)
            case measure => simp [intOf]; omega
      · have R := Lib.hid (cmp_eq (xs := xs) (ys := ys) (fun j => he.out j (by omega)))
        go_wp2_with fail
        go_ret
        exact ⟨ret_one R.out.symm, rfl⟩
end Go.Proofs.Ytmafkknnekkcdaa
