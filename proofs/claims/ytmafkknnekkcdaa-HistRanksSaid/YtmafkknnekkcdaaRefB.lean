/- Rows of limbs, walked: two rows together, a row without another one. -/
import Derived.Test.YtmafkknnekkcdaaRefA
namespace Go.Proofs.Ytmafkknnekkcdaa
open Go.RowKit

theorem int_info : (Try.prog.info? 3).map (fun i => (i.zero, i.size, i.bytes)) = some (some (.int .i64 0), 1, 8) := by kernel_rfl
/-- A row of limbs that the call itself made. -/
def OwnL (w : World) (B : Nat) (v : Value) (zs : List Int) : Prop := w.ownsRow B 3 1 v zs.length (zs.map (Value.int .i64))
theorem OwnL.row {w : World} {B : Nat} {v : Value} {zs : List Int} (h : OwnL w B v zs) (hd : Digs zs) : RowV w v zs := by
  refine ⟨?_, hd⟩
  rcases h.2 with ⟨rfl, hn⟩ | ⟨g, cap, cur, rfl, hb, hh, hc, _⟩
  · have e : zs = [] := List.eq_nil_of_length_eq_zero hn
    subst e; exact Lst.nil _ _ _
  · exact Lst.of_own h hc
theorem OwnL.empty (w : World) (B : Nat) (hB : B ≤ w.heap.size) : OwnL (w.alloc (.cells #[] 3)) B (.slice (some ⟨w.heap.size, 0, none⟩) 0 0) [] :=
  World.ownsRow_lit w #[] 0 hB (by simp [maxLen]) rfl

theorem OwnL.grow {w wr w1 : World} {B : Nat} {v v' : Value} {zs : List Int} {d : Int} {o : Obj} (hown : OwnL wr B v zs) (hbel : Below B w wr) (hsz : B ≤ wr.heap.size)
    (h' : w1.ownsRow B 3 1 v' (zs.length + 1) (zs.map (Value.int .i64) ++ [.int .i64 d])) (hg : (wr.alloc o).grownBy w1 v.ownBlock) : OwnL w1 B v' (zs ++ [d]) ∧ Below B w w1 := by
  constructor
  · unfold OwnL; simpa using h'
  · exact (hbel.alloc hsz o).grown hg (by simp; omega) (fun k hk => (hown.lt k hk).1)
theorem one_cell (wr : World) (x : Value) (t : TypeId) : ∀ j u, [x][j]? = some u → (wr.alloc (.cells #[x] t)).cell? ((⟨wr.heap.size, 0, none⟩ : Addr).add j) = some u := by
  intro j u hj
  match j, hj with
  | 0, hj => simp at hj; subst hj; simp [Addr.add]
theorem one_int (x : Int) : ∀ u ∈ [Value.int .i64 x], u.oneCell' = true := by
  intro u hu; simp at hu; subst hu; rfl

/-- What is so of two rows' sum behind k rounds. -/
structure Adding (xs ys : List Int) (k : Nat) (zs : List Int) (C : Int) : Prop where
  len : zs.length = k
  digs : Digs zs
  c0 : 0 ≤ C
  c1 : C ≤ 1
  eq : val zs + C * 65536 ^ k = sumD (dig xs) k + sumD (dig ys) k
theorem Adding.step {xs ys zs : List Int} {k : Nat} {C : Int} (h : Adding xs ys k zs C) (hx : Digs xs) (hy : Digs ys) :
    Adding xs ys (k + 1) (zs ++ [(C + (dig xs k + dig ys k)) % 65536]) ((C + (dig xs k + dig ys k)) / 65536) := by
  obtain ⟨len, digs, c0, c1, eq⟩ := h
  have a := hx.at_ k
  have b := hy.at_ k
  refine ⟨by simp [len], digs.snoc (by omega) (by omega), by omega, by omega, ?_⟩
  rw [val_snoc, len, sumD, sumD, pow_succ']
  generalize dig xs k = x at *
  generalize dig ys k = y at *
  have p := pow_pos k
  generalize (65536 : Int) ^ k = P at *
  have e := Int.mul_ediv_add_emod (C + (x + y)) 65536
  generalize (C + (x + y)) % 65536 = r at *
  generalize (C + (x + y)) / 65536 = q at *
  have e2 : C = 65536 * q + r - x - y := by omega
  subst e2
  have : q * (65536 * P) = 65536 * q * P := by rw [← Int.mul_assoc, Int.mul_comm q 65536]
  rw [this]
  simp only [Int.sub_mul, Int.add_mul] at eq
  omega
theorem Adding.ends {xs ys zs : List Int} {k : Nat} {C : Int} (h : Adding xs ys (k + 1) zs C) (hx : Digs xs) (hy : Digs ys) (lx : xs.length ≤ k) (ly : ys.length ≤ k) : val zs = val xs + val ys := by
  obtain ⟨len, digs, c0, c1, eq⟩ := h
  rw [val_more (by omega), val_more (by omega)] at eq
  have a := hx.bd
  have b := hy.bd
  have a1 := pow_le lx
  have b1 := pow_le ly
  have d := digs.bd
  rw [pow_succ'] at eq
  have p := pow_pos k
  rcases Int.lt_or_le C 1 with k1 | k1
  · obtain rfl : C = 0 := by omega
    rw [Int.zero_mul] at eq; omega
  · obtain rfl : C = 1 := by omega
    rw [Int.one_mul] at eq; omega

/-- What a call answers that makes a number: it, in memory that was not there. -/
def Gives (w : World) (m : Int) (e : Ending) (w' : World) : Prop := ∃ v, e = .returned v ∧ NatV w' v m ∧ Below w.heap.size w w'
theorem Gives.of_cut {w w1 w' : World} {m : Int} {e : Ending} (hb : Below w.heap.size w w1) (h : Cut w1 w1.heap.size m e w') : Gives w m e w' := by
  obtain ⟨v, he, hv, rfl⟩ := h
  exact ⟨v, he, hv, hb⟩

set_option maxRecDepth 100000 in
set_option maxHeartbeats 1000000 in
theorem plus_any (v u : Value) (m n : Int) (w : World) (L : Nat) (hv : NatV w v m) (hu : NatV w u n) (hm : m < 65536 ^ L) (hn : n < 65536 ^ L) (hL : L ≤ 100000) :
    Calls Try.prog 35 #[v, u] w (Gives w (m + n)) := by
  obtain ⟨xs, hx, hxn, rfl⟩ := hv
  obtain ⟨ys, hy, hyn, rfl⟩ := hu
  have lx := hxn.len hx.2 hm
  have ly := hyn.len hy.2 hn
  have RX := Lib.hid hx
  have RY := Lib.hid hy
  have HX := Lib.hid hx.2
  have HY := Lib.hid hy.2
  obtain ⟨A, c, rfl⟩ := hx.1.len
  obtain ⟨A', c', rfl⟩ := hy.1.len
  clear hx hy hxn hyn hm hn
  obtain ⟨i0, hi, hz0, hz1, hz2⟩ := info_parts int_info
  rcases Nat.lt_or_ge xs.length ys.length with hle | hle
  all_goals
    go_enter Try.func35, Try.ntmps35
    go_wp2_with fail
    go_loopw [5, 6, 7] (fun v c i wr => ∃ (k : Nat) (zs : List Int) (C : Int), k ≤ max xs.length ys.length + 1 ∧ i = .int .i64 k ∧ c = .int .i64 C ∧ OwnL wr w.heap.size v zs ∧ Adding xs ys k zs C ∧ Below w.heap.size w wr)
      (fun _ _ i _ => max xs.length ys.length + 1 - (intOf i).toNat)
    case atStart => exact ⟨0, [], 0, by omega, rfl, rfl, OwnL.empty w _ (Nat.le_refl _), ⟨rfl, Digs.nil, by omega, by omega, by simp [val, sumD]⟩, below_new _ _⟩
    case round =>
      obtain ⟨k, zs, C, hk, rfl, rfl, hown, hadd, hbel⟩ := hrel
      have c0 := hadd.c0
      have c1 := hadd.c1
      have hlen := hadd.len
      by_cases hlt : k < max xs.length ys.length + 1
      · have dx := HX.out.at_ k
        have dy := HY.out.at_ k
        have cx := limb_any _ xs k wr (RX.out.below hbel) (by omega) (by omega) (by omega)
        have cy := limb_any _ ys k wr (RY.out.below hbel) (by omega) (by omega) (by omega)
        rw [Int.toNat_natCast] at cx cy
        have hst := Lib.hid (hadd.step HX.out HY.out)
        have CX := Lib.hid cx
        have CY := Lib.hid cy
        clear cx cy hadd
        generalize dig xs k = x at *
        generalize dig ys k = y at *
        have hsz := hbel.size
        have HL := Lib.hid hlen
        clear hlen
        go_wp2_with fail
        refine (CX.out).mono ?_; rintro e w' ⟨rfl, rfl⟩
        go_wp2_with fail
        refine (CY.out).mono ?_; rintro e w' ⟨rfl, rfl⟩
        go_wp2_with (at_builtin; go_must (refine wpList_append_own _ rfl (.tmp 27) (.tmp 30) 48 rfl w.heap.size 3 i0 (.int .i64 0) 1 8 Try.underlying48 hi hz0 hz1 hz2 rfl (by decide) _ zs.length (zs.map (Value.int .i64)) rfl (hown.alloc _) ⟨wr.heap.size, 0, none⟩ 1 1 [.int .i64 ((C + (x + y)) % 65536)] rfl rfl (one_cell _ _ _) (one_int _) (by have := HL.out; unfold maxLen; omega) (by have := HL.out; omega) (by simp; omega) ?_); intro v1 w1 hown1 hgrow1 _)
        have hN := hown.grow hbel hsz hown1 hgrow1
        clear hown1 hgrow1 hown hbel
        go_wp2_with fail
        go_roundw
        case rel => exact ⟨k + 1, _, _, by omega, by go_num, rfl, hN.1, hst.out, hN.2⟩
        case measure => simp [intOf]; omega
      · obtain rfl : k = max xs.length ys.length + 1 := by omega
        have hv := hadd.ends HX.out HY.out (Nat.le_max_left _ _) (Nat.le_max_right _ _)
        have ct := trim_any _ zs wr wr.heap.size (hown.row hadd.digs) (by omega)
        rw [hv] at ct
        have CT := Lib.hid ct
        clear ct hv hadd
        go_wp2_with fail
        refine (CT.out).mono ?_; intro e w' hcut
        have G := Gives.of_cut hbel hcut
        obtain ⟨r, rfl, hr⟩ := G
        go_wp2_with fail
        go_ret
        exact ⟨_, rfl, hr⟩

/-- What is so of two rows' difference behind k rounds. -/
structure Taking (xs ys : List Int) (k : Nat) (zs : List Int) (C : Int) : Prop where
  len : zs.length = k
  digs : Digs zs
  c0 : 0 ≤ C
  c1 : C ≤ 1
  eq : val zs - C * 65536 ^ k = sumD (dig xs) k - sumD (dig ys) k
theorem Taking.low {xs ys zs : List Int} {k : Nat} {C : Int} (h : Taking xs ys k zs C) (hx : Digs xs) (hy : Digs ys) (hl : dig xs k - dig ys k - C < 0) :
    Taking xs ys (k + 1) (zs ++ [dig xs k - dig ys k - C + 65536]) 1 := by
  obtain ⟨len, digs, c0, c1, eq⟩ := h
  have a := hx.at_ k
  have b := hy.at_ k
  refine ⟨by simp [len], digs.snoc (by omega) (by omega), by omega, by omega, ?_⟩
  rw [val_snoc, len, sumD, sumD, pow_succ']
  simp only [Int.sub_mul, Int.add_mul]
  omega
theorem Taking.high {xs ys zs : List Int} {k : Nat} {C : Int} (h : Taking xs ys k zs C) (hx : Digs xs) (hy : Digs ys) (hl : ¬ dig xs k - dig ys k - C < 0) :
    Taking xs ys (k + 1) (zs ++ [dig xs k - dig ys k - C]) 0 := by
  obtain ⟨len, digs, c0, c1, eq⟩ := h
  have a := hx.at_ k
  have b := hy.at_ k
  refine ⟨by simp [len], digs.snoc (by omega) (by omega), by omega, by omega, ?_⟩
  rw [val_snoc, len, sumD, sumD, pow_succ']
  simp only [Int.sub_mul]
  omega
theorem Taking.ends {xs ys zs : List Int} {C : Int} (h : Taking xs ys xs.length zs C) (hy : Digs ys) (ny : Norm ys) (hx : Digs xs) (hle : val ys ≤ val xs) : val zs = val xs - val ys := by
  obtain ⟨len, digs, c0, c1, eq⟩ := h
  have ly := ny.len hy (L := xs.length) (by have := hx.bd; omega)
  rw [val_more (Nat.le_refl _), val_more ly] at eq
  have d := digs.bd
  rw [len] at d
  rcases Int.lt_or_le C 1 with k1 | k1
  · obtain rfl : C = 0 := by omega
    rw [Int.zero_mul] at eq; omega
  · obtain rfl : C = 1 := by omega
    rw [Int.one_mul] at eq; omega

set_option maxRecDepth 100000 in
set_option maxHeartbeats 1000000 in
theorem minus_any (v u : Value) (m n : Int) (w : World) (L : Nat) (hv : NatV w v m) (hu : NatV w u n) (hm : m < 65536 ^ L) (hle : n ≤ m) (hL : L ≤ 100000) :
    Calls Try.prog 37 #[v, u] w (Gives w (m - n)) := by
  obtain ⟨xs, hx, hxn, rfl⟩ := hv
  obtain ⟨ys, hy, hyn, rfl⟩ := hu
  have lx := hxn.len hx.2 hm
  have ly := hyn.len hy.2 (show val ys < 65536 ^ L by omega)
  have RX := Lib.hid hx
  have RY := Lib.hid hy
  have HX := Lib.hid hx.2
  have HY := Lib.hid hy.2
  have NY := Lib.hid hyn
  have LE := Lib.hid hle
  obtain ⟨A, c, rfl⟩ := hx.1.len
  obtain ⟨A', c', rfl⟩ := hy.1.len
  clear hx hy hxn hyn hm hle
  obtain ⟨i0, hi, hz0, hz1, hz2⟩ := info_parts int_info
  go_enter Try.func37, Try.ntmps37
  go_wp2_with fail
  go_loopw [5, 6, 7] (fun v c i wr => ∃ (k : Nat) (zs : List Int) (C : Int), k ≤ xs.length ∧ i = .int .i64 k ∧ c = .int .i64 C ∧ OwnL wr w.heap.size v zs ∧ Taking xs ys k zs C ∧ Below w.heap.size w wr)
    (fun _ _ i _ => xs.length - (intOf i).toNat)
  case atStart => exact ⟨0, [], 0, by omega, rfl, rfl, OwnL.empty w _ (Nat.le_refl _), ⟨rfl, Digs.nil, by omega, by omega, by simp [val, sumD]⟩, below_new _ _⟩
  case round =>
    obtain ⟨k, zs, C, hk, rfl, rfl, hown, htak, hbel⟩ := hrel
    have c0 := htak.c0
    have c1 := htak.c1
    have hlen := htak.len
    by_cases hlt : k < xs.length
    · have dx := HX.out.at_ k
      have dy := HY.out.at_ k
      have cx := limb_any _ xs k wr (RX.out.below hbel) (by omega) (by omega) (by omega)
      have cy := limb_any _ ys k wr (RY.out.below hbel) (by omega) (by omega) (by omega)
      rw [Int.toNat_natCast] at cx cy
      have CX := Lib.hid cx
      have CY := Lib.hid cy
      clear cx cy
      have hsz := hbel.size
      have HL := Lib.hid hlen
      clear hlen
      by_cases hneg : dig xs k - dig ys k - C < 0
      · have hst := Lib.hid (htak.low HX.out HY.out hneg)
        clear htak
        generalize dig xs k = x at *
        generalize dig ys k = y at *
        go_wp2_with fail
        refine (CX.out).mono ?_; rintro e w' ⟨rfl, rfl⟩
        go_wp2_with fail
        refine (CY.out).mono ?_; rintro e w' ⟨rfl, rfl⟩
        go_wp2_with (at_builtin; go_must (refine wpList_append_own _ rfl (.tmp 26) (.tmp 29) 48 rfl w.heap.size 3 i0 (.int .i64 0) 1 8 Try.underlying48 hi hz0 hz1 hz2 rfl (by decide) _ zs.length (zs.map (Value.int .i64)) rfl (hown.alloc _) ⟨wr.heap.size, 0, none⟩ 1 1 [.int .i64 (x - y - C + 65536)] rfl rfl (one_cell _ _ _) (one_int _) (by have := HL.out; unfold maxLen; omega) (by have := HL.out; omega) (by simp; omega) ?_); intro v1 w1 hown1 hgrow1 _)
        have hN := hown.grow hbel hsz hown1 hgrow1
        clear hown1 hgrow1 hown hbel
        go_wp2_with fail
        go_roundw
        case rel => exact ⟨k + 1, _, _, by omega, by go_num, rfl, hN.1, hst.out, hN.2⟩
        case measure => simp [intOf]; omega
      · have hst := Lib.hid (htak.high HX.out HY.out hneg)
        clear htak
        generalize dig xs k = x at *
        generalize dig ys k = y at *
        go_wp2_with fail
        refine (CX.out).mono ?_; rintro e w' ⟨rfl, rfl⟩
        go_wp2_with fail
        refine (CY.out).mono ?_; rintro e w' ⟨rfl, rfl⟩
        go_wp2_with (at_builtin; go_must (refine wpList_append_own _ rfl (.tmp 31) (.tmp 33) 48 rfl w.heap.size 3 i0 (.int .i64 0) 1 8 Try.underlying48 hi hz0 hz1 hz2 rfl (by decide) _ zs.length (zs.map (Value.int .i64)) rfl (hown.alloc _) ⟨wr.heap.size, 0, none⟩ 1 1 [.int .i64 (x - y - C)] rfl rfl (one_cell _ _ _) (one_int _) (by have := HL.out; unfold maxLen; omega) (by have := HL.out; omega) (by simp; omega) ?_); intro v1 w1 hown1 hgrow1 _)
        have hN := hown.grow hbel hsz hown1 hgrow1
        clear hown1 hgrow1 hown hbel
        go_wp2_with fail
        go_roundw
        case rel => exact ⟨k + 1, _, _, by omega, by go_num, rfl, hN.1, hst.out, hN.2⟩
        case measure => simp [intOf]; omega
    · obtain rfl : k = xs.length := by omega
      have hv := htak.ends HY.out NY.out HX.out LE.out
      have ct := trim_any _ zs wr wr.heap.size (hown.row htak.digs) (by omega)
      rw [hv] at ct
      have CT := Lib.hid ct
      clear ct hv htak
      go_wp2_with fail
      refine (CT.out).mono ?_; intro e w' hcut
      have G := Gives.of_cut hbel hcut
      obtain ⟨r, rfl, hr⟩ := G
      go_wp2_with fail
      go_ret
      exact ⟨_, rfl, hr⟩
end Go.Proofs.Ytmafkknnekkcdaa
