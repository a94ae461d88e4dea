/- Histograms as numbers; a variable that holds a row of longs; the document's Bucket and right. -/
import Derived.Test.YtmafkknnekkcdaaNum
import Derived.Test.YtmafkknnekkcdaaMem
import Derived.Deep.MidRow
import Derived.Test.YtmafkknnekkcdaaRows
import Derived.WalkSpells
import Derived.WalkLawsBesides
namespace Go.Proofs.Ytmafkknnekkcdaa

section
open Go.RowKit

/-- How many binary digits a number has. -/
def digN (n : Nat) : Nat := if n = 0 then 0 else Nat.log2 n + 1
theorem digN_zero : digN 0 = 0 := rfl
theorem digN_half {n : Nat} (h : 0 < n) : digN n = digN (n / 2) + 1 := by
  unfold digN
  rw [if_neg (by omega)]
  by_cases h2 : 2 ≤ n
  · rw [if_neg (by omega)]
    conv => lhs; rw [Nat.log2_def]
    rw [if_pos h2]
  · obtain rfl : n = 1 := by omega
    decide
theorem digN_le {n k : Nat} (h : n < 2 ^ k) : digN n ≤ k := by
  induction k generalizing n with
  | zero =>
    obtain rfl : n = 0 := by simpa using h
    exact Nat.le_refl _
  | succ k ih =>
    rcases Nat.eq_zero_or_pos n with h0 | h0
    · subst h0; exact Nat.zero_le _
    · rw [digN_half h0]
      have := ih (n := n / 2) (by rw [Nat.pow_succ] at h; omega)
      omega
/-- A long's bucket. -/
def bktN (v : Int) : Nat := if v < 0 then 0 else 1 + digN v.toNat
theorem bktN_neg {v : Int} (h : v < 0) : bktN v = 0 := if_pos h
theorem bktN_pos {v : Int} (h : ¬ v < 0) : bktN v = 1 + digN v.toNat := if_neg h
theorem bktN_lt {v : Int} (h : Fits v) : bktN v < 65 := by
  unfold bktN
  split
  · omega
  · have := digN_le (n := v.toNat) (k := 63) (by unfold Fits at h; have : (2 : Nat) ^ 63 = 9223372036854775808 := by decide
                                                 omega)
    omega
/-- How many longs of a list are in a bucket. -/
def cntI (zs : List Int) (b : Nat) : Int := ((zs.countP fun z => bktN z == b : Nat) : Int)
theorem cntI_nil (b : Nat) : cntI [] b = 0 := rfl
theorem cntI_snoc (zs : List Int) (z : Int) (b : Nat) : cntI (zs ++ [z]) b = cntI zs b + if bktN z = b then 1 else 0 := by
  unfold cntI
  rw [List.countP_append]
  by_cases h : bktN z = b
  · simp [h]
  · simp [h]
theorem cntI_bd (zs : List Int) (b : Nat) : 0 ≤ cntI zs b ∧ cntI zs b ≤ zs.length := by
  unfold cntI
  have := List.countP_le_length (p := fun z => bktN z == b) (l := zs)
  omega
/-- The histogram of a list: 65 counts. -/
def histOf (zs : List Int) : List Int := (List.range 65).map fun b => cntI zs b
theorem histOf_length (zs : List Int) : (histOf zs).length = 65 := by simp [histOf]
theorem histOf_get (zs : List Int) {b : Nat} (h : b < 65) : (histOf zs)[b]? = some (cntI zs b) := by
  unfold histOf
  rw [List.getElem?_map, List.getElem?_range h]; rfl
theorem histOf_at (zs : List Int) {b : Nat} (h : b < 65) : (histOf zs)[b]'(by rw [histOf_length]; exact h) = cntI zs b := by
  have := histOf_get zs h
  rw [List.getElem?_eq_getElem (by rw [histOf_length]; exact h)] at this
  injection this
theorem histOf_snoc (zs : List Int) (z : Int) : histOf (zs ++ [z]) = (histOf zs).set (bktN z) (cntI zs (bktN z) + 1) := by
  apply List.ext_getElem?
  intro j
  by_cases hj : j < 65
  · rw [histOf_get _ hj, List.getElem?_set, cntI_snoc]
    by_cases e : bktN z = j
    · subst e
      rw [if_pos rfl, if_pos rfl, histOf_length, if_pos hj]
    · rw [if_neg e, if_neg e, histOf_get _ hj, Int.add_zero]
  · rw [List.getElem?_eq_none (by rw [histOf_length]; omega), List.getElem?_eq_none (by rw [List.length_set, histOf_length]; omega)]
end

section
open Go.RowKit

/-- A row of longs as a value. -/
abbrev rowV (zs : List Int) : Value := .agg ((zs.map (Value.int .i64)).toArray)
/-- Block b holds the row, and it may be written. -/
structure RowAt (w : World) (b : Nat) (zs : List Int) : Prop where
  cell : ∀ k (h : k < zs.length), w.cell? ⟨b, k, none⟩ = some (.int .i64 zs[k])
  free : ∀ k, k < zs.length → w.frozen? ⟨b, k, none⟩ = false
  lt : b < w.heap.size
section
variable {w w1 : World} {b : Nat} {zs : List Int}
theorem RowAt.below (a : RowAt w b zs) (hb : Below w.heap.size w w1) : RowAt w1 b zs := by
  have hl := a.lt
  exact ⟨fun k h => (hb.cell (p := ⟨b, k, none⟩) hl).trans (a.cell k h), fun k h => (hb.frozen (p := ⟨b, k, none⟩) hl).trans (a.free k h), Nat.lt_of_lt_of_le hl hb.size⟩
theorem RowAt.drew (a : RowAt w b zs) : RowAt w.drew b zs := ⟨a.cell, a.free, a.lt⟩
theorem RowAt.alloc (a : RowAt w b zs) (o : Obj) : RowAt (w.alloc o) b zs := a.below (below_new w o)
theorem RowAt.range (a : RowAt w b zs) : w.rangeAt b 0 (zs.map (Value.int .i64)) := fun j v hv => by
  have hj : j < zs.length := by have := (List.getElem?_eq_some_iff.1 hv).1; simpa using this
  rw [Nat.zero_add, a.cell j hj, ← hv]
  simp [hj]
theorem RowAt.there (a : RowAt w b zs) : w.there b 0 zs.length := fun j hj => by
  rw [Nat.zero_add, a.cell j hj]
  exact ⟨rfl, a.free j hj⟩
theorem RowAt.set (a : RowAt w b zs) {k : Nat} (h : k < zs.length) (z : Int) : RowAt (w.setCell ⟨b, k, none⟩ (.int .i64 z)) b (zs.set k z) := by
  refine ⟨fun j hj => ?_, fun j hj => ?_, by simpa using a.lt⟩
  · rw [List.length_set] at hj
    by_cases e : k = j
    · subst e
      rw [World.cell?_setCell_same _ _ _ (a.cell k h), List.getElem_set_self]
    · rw [World.cell?_setCell_other _ _ _ _ (fun q => e (by injection q)), a.cell j hj, List.getElem_set_ne e]
  · rw [List.length_set] at hj
    simpa using a.free j hj
theorem RowAt.other (a : RowAt w b zs) {p : Addr} (h : p.block ≠ b) (u : Value) : RowAt (w.setCell p u) b zs := by
  refine ⟨fun j hj => ?_, fun j hj => by simpa using a.free j hj, by simpa using a.lt⟩
  rw [World.cell?_setCell_other _ _ _ _ (fun e => h (by rw [e]))]
  exact a.cell j hj
/-- A whole row is stored. -/
theorem RowAt.put (a : RowAt w b zs) {ys : List Int} (h : ys.length = zs.length) : RowAt (w.setCells b 0 (ys.map (Value.int .i64))) b ys := by
  have ht : w.there b 0 (ys.map (Value.int .i64)).length := by rw [List.length_map, h]; exact a.there
  have hr := World.rangeAt_setCells_same w b 0 _ ht
  have hz : ∀ (vs : List Value) (o : Nat) (w : World), (w.setCells b o vs).heap.size = w.heap.size := by
    intro vs
    induction vs with
    | nil => intro o w; rfl
    | cons v r ih => intro o w; rw [World.setCells, ih, World.size_setCell]
  refine ⟨fun j hj => ?_, fun j hj => ?_, by rw [hz]; exact a.lt⟩
  · have := hr j (.int .i64 ys[j]) (by simp [hj])
    rwa [Nat.zero_add] at this
  · rw [World.frozen?_setCells]; exact a.free j (by omega)
/-- Cells of another block are stored. -/
theorem RowAt.puts (a : RowAt w b zs) {b' : Nat} (h : b ≠ b') (o : Nat) (vs : List Value) : RowAt (w.setCells b' o vs) b zs := by
  have hz : ∀ (vs : List Value) (o : Nat) (w : World), (w.setCells b' o vs).heap.size = w.heap.size := by
    intro vs
    induction vs with
    | nil => intro o w; rfl
    | cons v r ih => intro o w; rw [World.setCells, ih, World.size_setCell]
  refine ⟨fun j hj => ?_, fun j hj => by rw [World.frozen?_setCells]; exact a.free j hj, by rw [hz]; exact a.lt⟩
  rw [World.cell?_setCells_out b' vs o w ⟨b, j, none⟩ (fun hb _ => absurd hb h)]
  exact a.cell j hj
end
theorem below_puts {B b : Nat} {w X : World} (h : Below B w X) (hb : B ≤ b) : ∀ (o : Nat) (vs : List Value), Below B w (X.setCells b o vs) := by
  intro o vs
  induction vs generalizing o X with
  | nil => exact h
  | cons v r ih => exact ih (h.setCell hb v) (o + 1)
theorem RowAt.new (w : World) (zs : List Int) (t : TypeId) : RowAt (w.alloc (.cells ((zs.map (Value.int .i64)).toArray) t)) w.heap.size zs := by
  refine ⟨fun k h => ?_, fun k _ => ?_, by simp⟩
  · rw [World.cell?_alloc_new]; simp [h]
  · unfold World.frozen?
    show (match (w.alloc (.cells ((zs.map (Value.int .i64)).toArray) t)).heap[w.heap.size]? with | some (.cells _ _ (lo, hi)) => decide (lo ≤ k) && decide (k < hi) | _ => false) = false
    rw [heap_alloc_new]; simp
theorem row_one (zs : List Int) : ((zs.map (Value.int .i64)).toArray).all (·.oneCell') = true :=
  all_oneCell_toArray fun v hv => by obtain ⟨z, _, rfl⟩ := List.mem_map.1 hv; rfl
end

section
open Go.RowKit

theorem ret_bkt {v : Int} {i : Nat} (h : i = bktN v) : Ending.returned (.int .i64 (i : Int)) = .returned (.int .i64 ((bktN v : Nat) : Int)) := by rw [h]

set_option maxRecDepth 100000 in
set_option maxHeartbeats 1000000 in
theorem rBucket_any (v : Int) (w : World) (hv : Fits v) : Calls Try.prog 10 #[.int .i64 v] w fun e w' => e = .returned (.int .i64 ((bktN v : Nat) : Int)) ∧ w = w' := by
  by_cases h : v < 0
  · have HE := Lib.hid (bktN_neg h)
    go_enter Try.func10, Try.ntmps10
    go_wp2_with fail
    go_ret
    exact ⟨by rw [HE.out]; rfl, rfl⟩
  · have HE := Lib.hid (bktN_pos h)
    obtain ⟨n, rfl⟩ := Int.eq_ofNat_of_zero_le (show 0 ≤ v by omega)
    have hn : n ≤ 9223372036854775807 := by unfold Fits at hv; omega
    have HD := Lib.hid (digN_le (n := n) (k := 63) (by have : (2 : Nat) ^ 63 = 9223372036854775808 := by decide
                                                       omega))
    clear hv
    go_enter Try.func10, Try.ntmps10
    go_wp2_with fail
    go_loop [0, 3] (fun x y => ∃ a i : Nat, a ≤ 9223372036854775807 ∧ i ≤ 64 ∧ x = .int .i64 a ∧ y = .int .i64 i ∧ Hid (i + digN a = 1 + digN n)) (fun x _ => (intOf x).toNat)
    case atStart => exact ⟨n, 1, hn, by omega, rfl, rfl, Lib.hid rfl⟩
    case round =>
      obtain ⟨a, i, ha, hi, rfl, rfl, hd⟩ := hrel
      by_cases hp : 0 < a
      · have hs := digN_half hp
        have hd' : Hid (i + 1 + digN (a / 2) = 1 + digN n) := Lib.hid (by have := hd.out; omega)
        have hi' : i + 1 ≤ 64 := by have := hd.out; have := HD.out; omega
        have e1 : (0 : Int) < (a : Int) := by omega
        clear hs hd
        go_wp2_with fail
        go_round
        case rel => exact ⟨a / 2, i + 1, by omega, hi', by go_num, by go_num, hd'⟩
        case measure => simp [intOf]; omega
      · obtain rfl : a = 0 := by omega
        have HR : Hid (i = bktN (n : Int)) := Lib.hid (by rw [HE.out]; have := hd.out; simpa [digN_zero] using this)
        clear hd
        go_wp2_with fail
        go_ret
        exact ⟨ret_bkt HR.out, rfl⟩

/-- Is no count below 0? -/
def nonegB (zs : List Int) : Bool := zs.all fun z => decide (0 ≤ z)
theorem row_cell (w : World) (zs : List Int) (t : TypeId) {k : Nat} (h : k < zs.length) : (w.alloc (.cells ((zs.map (Value.int .i64)).toArray) t)).cell? ⟨w.heap.size, k, none⟩ = some (.int .i64 zs[k]) := by
  rw [World.cell?_alloc_new]
  simp [h]

set_option maxRecDepth 100000 in
set_option maxHeartbeats 1000000 in
theorem rRight5_any (zs : List Int) (w : World) (hl : zs.length = 65) : Calls Try.prog 32 #[rowV zs] w fun e w' => e = .returned (.bool (nonegB zs)) ∧ Below w.heap.size w w' := by
  have HC := Lib.hid fun k (h : k < zs.length) => row_cell w zs 32 h
  have HL := Lib.hid hl
  have hB := below_new w (.cells ((zs.map (Value.int .i64)).toArray) 32)
  clear hl
  go_enter Try.func32, Try.ntmps32
  go_wp2_with fail
  change Code.wp _ _ _ _ (w.alloc (.cells ((zs.map (Value.int .i64)).toArray) 32))
  generalize w.alloc (.cells ((zs.map (Value.int .i64)).toArray) 32) = W at *
  go_loop [3] (fun x => ∃ k : Nat, k ≤ 65 ∧ x = .int .i64 k ∧ Hid (∀ j (h : j < zs.length), j < k → 0 ≤ zs[j])) (fun x => 65 - (intOf x).toNat)
  case atStart => exact ⟨0, Nat.zero_le _, rfl, Lib.hid fun j _ h => absurd h (by omega)⟩
  case round =>
    obtain ⟨k, hk, rfl, hall⟩ := hrel
    by_cases hlt : k < 65
    · have hkz : k < zs.length := by rw [HL.out]; exact hlt
      have c1 := HC.out k hkz
      have i0 : (0 : Int) ≤ (k : Int) := by omega
      have i1 : (k : Int) < 65 := by omega
      have hall' : Hid (0 ≤ zs[k] → ∀ j (h : j < zs.length), j < k + 1 → 0 ≤ zs[j]) := Lib.hid fun h0 j hj hjk => by
        by_cases e : j = k
        · subst e; exact h0
        · exact hall.out j hj (by omega)
      have HNO : Hid (zs[k] < 0 → nonegB zs = false) := Lib.hid fun h => by
        unfold nonegB
        rw [List.all_eq_false]
        exact ⟨zs[k], List.getElem_mem hkz, by simp; omega⟩
      clear hall
      generalize zs[k] = z at *
      by_cases hz : z < 0
      · have HE := Lib.hid (HNO.out hz)
        clear hall' HNO
        go_wp2_with fail
        go_ret
        exact ⟨by rw [HE.out]; rfl, hB⟩
      · replace hall' := Lib.hid (hall'.out (by omega))
        clear HNO
        go_wp2_with fail
        go_round
        case rel => exact ⟨k + 1, by omega, by go_num, hall'⟩
        case measure => simp [intOf]; omega
    · have HE : Hid (nonegB zs = true) := Lib.hid (by
        unfold nonegB
        rw [List.all_eq_true]
        intro z hz
        obtain ⟨j, hj, rfl⟩ := List.getElem_of_mem hz
        exact decide_eq_true (hall.out j hj (by have := HL.out; omega)))
      clear hall
      go_wp2_with fail
      go_ret
      exact ⟨by rw [HE.out]; rfl, hB⟩
end
end Go.Proofs.Ytmafkknnekkcdaa
