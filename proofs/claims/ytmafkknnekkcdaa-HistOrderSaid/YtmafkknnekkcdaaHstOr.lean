/- Buckets' bounds, ranks of a list's histogram, two parts merged, as numbers; HistBuckets walked; what HistBuckets and HistOrder ask. -/
import Derived.Test.YtmafkknnekkcdaaHstA
import Derived.Test.YtmafkknnekkcdaaNumAt
import Derived.Test.YtmafkknnekkcdaaAt2
import Derived.Test.YtmafkknnekkcdaaHstR
import Derived.Test.YtmafkknnekkcdaaHstB
import Derived.Test.YtmafkknnekkcdaaHstM
namespace Go.Proofs.Ytmafkknnekkcdaa

section
open Go.RowKit

/-- The bounds of a bucket. -/
def bndI (b : Nat) : Int × Int := if b = 0 then (-9223372036854775808, -1) else if b = 1 then (0, 0) else (((2 ^ (b - 2) : Nat) : Int), ((2 ^ (b - 1) : Nat) : Int) - 1)

theorem digN_iff {n k : Nat} : digN n = k + 1 ↔ 2 ^ k ≤ n ∧ n < 2 ^ (k + 1) := by
  unfold digN
  by_cases h : n = 0
  · subst h
    simp
  · rw [if_neg h, ← Nat.log2_eq_iff h]; omega

theorem bkt_iff {v : Int} {b : Nat} (hv : Fits v) (_hb : b ≤ 64) : ((bndI b).1 ≤ v ∧ v ≤ (bndI b).2) ↔ bktN v = b := by
  unfold Fits at hv
  unfold bndI bktN
  by_cases h0 : b = 0
  · subst h0
    rw [if_pos rfl]
    by_cases h : v < 0
    · rw [if_pos h]; constructor <;> intro _ <;> omega
    · rw [if_neg h]; dsimp only; constructor <;> omega
  · rw [if_neg h0]
    by_cases h1 : b = 1
    · subst h1
      rw [if_pos rfl]
      by_cases h : v < 0
      · rw [if_pos h]; dsimp only; constructor <;> omega
      · rw [if_neg h]
        dsimp only
        by_cases hz : v = 0
        · subst hz; simp [digN]
        · have : digN v.toNat ≠ 0 := by unfold digN; rw [if_neg (by omega)]; omega
          constructor <;> omega
    · rw [if_neg h1]
      obtain ⟨k, rfl⟩ : ∃ k, b = k + 2 := ⟨b - 2, by omega⟩
      dsimp only
      rw [show k + 2 - 2 = k by omega, show k + 2 - 1 = k + 1 by omega]
      have hp := Nat.two_pow_pos k
      by_cases h : v < 0
      · rw [if_pos h]; constructor <;> omega
      · rw [if_neg h, show (1 + digN v.toNat = k + 2 ↔ digN v.toNat = k + 1) by omega, digN_iff]; omega

theorem bnd_le {b : Nat} (hb : b ≤ 64) : (bndI b).1 ≤ (bndI b).2 ∧ Fits (bndI b).1 ∧ Fits (bndI b).2 := by
  have : ∀ b, b < 65 → (bndI b).1 ≤ (bndI b).2 ∧ Fits (bndI b).1 ∧ Fits (bndI b).2 := by decide
  exact this b (by omega)
theorem bnd_lo {b : Nat} (hb : b ≤ 64) : bktN (bndI b).1 = b := (bkt_iff (bnd_le hb).2.1 hb).1 ⟨Int.le_refl _, (bnd_le hb).1⟩
theorem bnd_hi {b : Nat} (hb : b ≤ 64) : bktN (bndI b).2 = b := (bkt_iff (bnd_le hb).2.2 hb).1 ⟨(bnd_le hb).1, Int.le_refl _⟩

/-- What HistBuckets asks of the packages. -/
structure HistP : Prop where
  alive : ∀ w, Calls Try.prog 8 #[] w fun e w' => e = .returned (.bool true) ∧ Below w.heap.size w w'
  bucket : ∀ v w, Fits v → Calls Try.prog 9 #[.int .i64 v] w fun e w' => e = .returned (.int .i64 ((bktN v : Nat) : Int)) ∧ Below w.heap.size w w'
  bounds : ∀ (b : Nat) w, b ≤ 64 → Calls Try.prog 11 #[.int .i64 b] w fun e w' => e = .returned (.tuple #[.agg #[.int .i64 (bndI b).1, .int .i64 (bndI b).2], .bool true]) ∧ Below w.heap.size w w'
  none : ∀ (b : Int) w, Fits b → (b < 0 ∨ 64 < b) → Calls Try.prog 11 #[.int .i64 b] w fun e w' => e = .returned (.tuple #[.agg #[.int .i64 0, .int .i64 0], .bool false]) ∧ Below w.heap.size w w'
  right : ∀ a b w, Calls Try.prog 12 #[.agg #[.int .i64 a, .int .i64 b]] w fun e w' => e = .returned (.bool (decide (a ≤ b))) ∧ Below w.heap.size w w'
  has : ∀ a b x w, Calls Try.prog 13 #[.agg #[.int .i64 a, .int .i64 b], .int .i64 x] w fun e w' => e = .returned (.bool (decide (a ≤ x ∧ x ≤ b))) ∧ Below w.heap.size w w'

set_option maxRecDepth 100000 in
set_option maxHeartbeats 4000000 in
theorem histBuckets_any (G : HistP) (v b : Int) (w : World) (hv : Fits v) (hb : Fits b) :
    Calls Try.prog 3 #[.int .i64 v, .int .i64 b] w fun e w' => e = .returned (.bool true) ∧ Below w.heap.size w w' := by
  have C0 := Lib.hid G.alive
  have C1 := Lib.hid fun W => G.bucket v W hv
  have C2 := Lib.hid fun W => rBucket_any v W hv
  by_cases hout : b < 0 ∨ 64 < b
  · have C3 := Lib.hid fun W => G.none b W hb hout
    generalize bktN v = n at *
    clear G hv hb
    have hB := Below.refl w.heap.size w
    go_enter Try.func3, Try.ntmps3
    go_wp2_with fail
    refine (C0.out _).mono ?_; rintro e w0 ⟨rfl, h⟩
    replace hB := ext_step hB h
    go_wp2_with fail
    refine (C1.out _).mono ?_; rintro e w1 ⟨rfl, h⟩
    replace hB := ext_step hB h
    go_wp2_with fail
    refine (C2.out _).mono ?_; rintro e w2 ⟨rfl, rfl⟩
    go_wp2_with fail
    refine (C3.out _).mono ?_; rintro e w3 ⟨rfl, h⟩
    replace hB := ext_step hB h
    replace hB := ext_alloc hB (.cells #[.int .i64 0, .int .i64 0] 25)
    clear h
    rcases hout with ho | ho
    · go_wp2_with fail
      go_ret
      exact ⟨rfl, hB⟩
    · go_wp2_with fail
      go_ret
      exact ⟨rfl, hB⟩
  · obtain ⟨k, rfl⟩ := Int.eq_ofNat_of_zero_le (show 0 ≤ b by omega)
    have hk : k ≤ 64 := by omega
    have hl := bnd_le hk
    have C3 := Lib.hid fun W => G.bounds k W hk
    have C4 := Lib.hid fun W => G.right (bndI k).1 (bndI k).2 W
    have C5 := Lib.hid fun W => rBucket_any (bndI k).1 W hl.2.1
    have C6 := Lib.hid fun W => rBucket_any (bndI k).2 W hl.2.2
    have C7 := Lib.hid fun W => G.has (bndI k).1 (bndI k).2 v W
    rw [bnd_lo hk] at C5
    rw [bnd_hi hk] at C6
    rw [decide_eq_true hl.1] at C4
    rw [show decide ((bndI k).1 ≤ v ∧ v ≤ (bndI k).2) = decide (((bktN v : Nat) : Int) = (k : Int)) by rw [decide_eq_decide, bkt_iff hv hk]; omega] at C7
    generalize (bndI k).1 = lo at *
    generalize (bndI k).2 = hi at *
    generalize bktN v = n at *
    clear G hv hb hl hout
    have hB := Below.refl w.heap.size w
    go_enter Try.func3, Try.ntmps3
    go_wp2_with fail
    refine (C0.out _).mono ?_; rintro e w0 ⟨rfl, h⟩
    replace hB := ext_step hB h
    go_wp2_with fail
    refine (C1.out _).mono ?_; rintro e w1 ⟨rfl, h⟩
    replace hB := ext_step hB h
    go_wp2_with fail
    refine (C2.out _).mono ?_; rintro e w2 ⟨rfl, rfl⟩
    go_wp2_with fail
    refine (C3.out _).mono ?_; rintro e w3 ⟨rfl, h⟩
    replace hB := ext_step hB h
    replace hB := ext_alloc hB (.cells #[.int .i64 lo, .int .i64 hi] 25)
    have hA := At2.new w3 (.int .i64 lo) (.int .i64 hi) 25
    obtain ⟨a0, a1, -, -⟩ := id hA
    go_wp2_with fail
    clear a0 a1
    generalize w3.alloc (.cells #[.int .i64 lo, .int .i64 hi] 25) = W3 at *
    generalize w3.heap.size = gb at *
    refine (C4.out _).mono ?_; rintro e w4 ⟨rfl, h⟩
    replace hB := ext_step hB h
    replace hA := hA.below h
    obtain ⟨a0, a1, -, -⟩ := id hA
    go_wp2_with fail
    refine (C5.out _).mono ?_; rintro e w5 ⟨rfl, rfl⟩
    go_wp2_with fail
    refine (C6.out _).mono ?_; rintro e w6 ⟨rfl, rfl⟩
    go_wp2_with fail
    clear a0 a1
    refine (C7.out _).mono ?_; rintro e w7 ⟨rfl, h⟩
    replace hB := ext_step hB h
    go_wp2_with fail
    refine (C2.out _).mono ?_; rintro e w8 ⟨rfl, rfl⟩
    go_wp2_with fail
    go_ret
    exact ⟨by by_cases e : (n : Int) = (k : Int) <;> simp [e], hB⟩
end

section
open Go.RowKit

/-- How many longs of a list are in buckets below b. -/
def lessI (zs : List Int) (b : Nat) : Int := ((zs.countP fun z => decide (bktN z < b) : Nat) : Int)
theorem lessI_zero (zs : List Int) : lessI zs 0 = 0 := by
  unfold lessI
  simp
theorem lessI_nil (b : Nat) : lessI [] b = 0 := rfl
theorem lessI_snoc (zs : List Int) (z : Int) (b : Nat) : lessI (zs ++ [z]) b = lessI zs b + if bktN z < b then 1 else 0 := by
  unfold lessI
  rw [List.countP_append]
  by_cases h : bktN z < b
  · simp [h]
  · simp [h]
theorem lessI_succ (zs : List Int) (b : Nat) : lessI zs (b + 1) = lessI zs b + cntI zs b := by
  induction zs with
  | nil => rfl
  | cons z t ih =>
    unfold lessI cntI at ih ⊢
    rw [List.countP_cons, List.countP_cons, List.countP_cons]
    simp only [beq_iff_eq, decide_eq_true_eq]
    by_cases h1 : bktN z < b
    · rw [if_pos h1, if_pos (by omega), if_neg (by omega)]; omega
    · by_cases h2 : bktN z = b
      · rw [if_neg h1, if_pos (by omega), if_pos h2]; omega
      · rw [if_neg h1, if_neg (by omega), if_neg h2]; omega
theorem lessI_full {zs : List Int} (h : ∀ z ∈ zs, Fits z) : lessI zs 65 = zs.length := by
  unfold lessI
  rw [List.countP_eq_length.2 fun z hz => decide_eq_true (bktN_lt (h z hz))]
theorem nonneg_hist (zs : List Int) : nonegB (histOf zs) = true := by
  unfold nonegB
  rw [List.all_eq_true]
  intro x hx
  obtain ⟨b, -, rfl⟩ := List.mem_map.1 hx
  have := (cntI_bd zs b).1
  simp; omega

theorem rank_hist {zs : List Int} (hf : ∀ z ∈ zs, Fits z) (k : Int) : ∀ (m j : Nat), j + m = 65 → 0 ≤ k - lessI zs j →
    (k < zs.length → ∃ b : Nat, b < 65 ∧ rankI ((histOf zs).drop j) (k - lessI zs j) j = (b : Int) ∧ lessI zs b ≤ k ∧ k < lessI zs b + cntI zs b) ∧ (zs.length ≤ k → rankI ((histOf zs).drop j) (k - lessI zs j) j = -1)
  | 0, j, hj, h0 => by
    obtain rfl : j = 65 := by omega
    rw [lessI_full hf] at h0 ⊢
    refine ⟨fun h => absurd h (by omega), fun _ => ?_⟩
    rw [List.drop_eq_nil_of_le (by rw [histOf_length]; exact Nat.le_refl _)]
    rfl
  | m + 1, j, hj, h0 => by
    have hj2 : j < 65 := by omega
    rw [rank_next (by rw [histOf_length]; exact hj2), histOf_at _ hj2]
    by_cases hlt : k - lessI zs j < cntI zs j
    · rw [if_pos hlt]
      refine ⟨fun _ => ⟨j, hj2, rfl, by omega, by omega⟩, fun hk => ?_⟩
      have hle : lessI zs (j + 1) ≤ zs.length := by
        unfold lessI
        have := List.countP_le_length (p := fun z => decide (bktN z < j + 1)) (l := zs)
        omega
      rw [lessI_succ] at hle
      omega
    · rw [if_neg hlt]
      have := rank_hist hf k m (j + 1) (by omega) (by rw [lessI_succ]; omega)
      rw [lessI_succ, show k - (lessI zs j + cntI zs j) = k - lessI zs j - cntI zs j by omega] at this
      exact this

/-- The rank of a number below the list's length. -/
theorem rankV_in {zs : List Int} (hf : ∀ z ∈ zs, Fits z) {k : Nat} (hk : k < zs.length) : ∃ b : Nat, b < 65 ∧ rankV (histOf zs) 0 (k : Int) = (b : Int) ∧ lessI zs b ≤ k ∧ (k : Int) < lessI zs b + cntI zs b := by
  obtain ⟨b, h1, h2, h3⟩ := (rank_hist hf k 65 0 rfl (by rw [lessI_zero]; omega)).1 (by omega)
  refine ⟨b, h1, ?_, h3⟩
  unfold rankV
  rw [if_neg (by rw [nonneg_hist]; simp), ← h2, lessI_zero]
  simp
/-- There is no rank beyond. -/
theorem rankV_out {zs : List Int} (hf : ∀ z ∈ zs, Fits z) : rankV (histOf zs) 0 (zs.length : Int) = -1 := by
  have h := (rank_hist hf zs.length 65 0 rfl (by rw [lessI_zero]; omega)).2 (Int.le_refl _)
  unfold rankV
  rw [if_neg (by rw [nonneg_hist]; simp), ← h, lessI_zero]
  simp
end

section
open Go.RowKit

/-- What HistOrder asks of the packages. -/
structure HistO : Prop where
  alive : ∀ w, Calls Try.prog 8 #[] w fun e w' => e = .returned (.bool true) ∧ Below w.heap.size w w'
  bucket : ∀ v w, Fits v → Calls Try.prog 9 #[.int .i64 v] w fun e w' => e = .returned (.int .i64 ((bktN v : Nat) : Int)) ∧ Below w.heap.size w w'
  of : ∀ v zs w, Lst w w.heap.size .i64 v zs → (∀ z ∈ zs, Fits z) → zs.length ≤ 1000000 → Calls Try.prog 14 #[v] w fun e w' => e = .returned (rowV (histOf zs)) ∧ Below w.heap.size w w'
  wide : ∀ (n : Nat) w, n ≤ 1000000 → Calls Try.prog 27 #[.int .i64 n] w fun e w' => e = .returned (.agg #[.int .i64 0, .int .u64 n]) ∧ Below w.heap.size w w'
  rank : ∀ hs hi lo w, hs.length = 65 → (∀ z ∈ hs, Fits z) → Fits hi → 0 ≤ lo → lo < 18446744073709551616 → Calls Try.prog 24 #[rowV hs, .agg #[.int .i64 hi, .int .u64 lo]] w fun e w' => e = .returned (.tuple #[.int .i64 (if 0 ≤ rankV hs hi lo then rankV hs hi lo else 0), .bool (decide (0 ≤ rankV hs hi lo))]) ∧ Below w.heap.size w w'

theorem histOf_fits {zs : List Int} (h : zs.length ≤ 1000000) : ∀ z ∈ histOf zs, Fits z := by
  intro x hx
  obtain ⟨b, -, rfl⟩ := List.mem_map.1 hx
  have := cntI_bd zs b
  unfold Fits; omega

/-- Rank, of a list's histogram. -/
theorem rank_in (G : HistO) {zs : List Int} (hf : ∀ z ∈ zs, Fits z) (hn : zs.length ≤ 1000000) {k : Nat} (hk : k < zs.length) : ∃ b : Nat, b < 65 ∧ lessI zs b ≤ k ∧ (k : Int) < lessI zs b + cntI zs b ∧ ∀ w, Calls Try.prog 24 #[rowV (histOf zs), .agg #[.int .i64 0, .int .u64 k]] w fun e w' => e = .returned (.tuple #[.int .i64 (b : Int), .bool true]) ∧ Below w.heap.size w w' := by
  obtain ⟨b, h1, h2, h3, h4⟩ := rankV_in hf hk
  refine ⟨b, h1, h3, h4, fun w => ?_⟩
  have := G.rank (histOf zs) 0 k w (histOf_length zs) (histOf_fits hn) (by decide) (by omega) (by omega)
  rw [h2, if_pos (by omega), decide_eq_true (show (0 : Int) ≤ (b : Int) by omega)] at this
  exact this
theorem rank_out (G : HistO) {zs : List Int} (hf : ∀ z ∈ zs, Fits z) (hn : zs.length ≤ 1000000) (w : World) : Calls Try.prog 24 #[rowV (histOf zs), .agg #[.int .i64 0, .int .u64 zs.length]] w fun e w' => e = .returned (.tuple #[.int .i64 0, .bool false]) ∧ Below w.heap.size w w' := by
  have := G.rank (histOf zs) 0 zs.length w (histOf_length zs) (histOf_fits hn) (by decide) (by omega) (by omega)
  rw [rankV_out hf] at this
  exact this

theorem zeroH (w : World) : (zeroValue 33).run Try.prog w = .ok (rowV zrow) w := by kernel_rfl
theorem infoH : (Try.prog.info? 33).map (·.size) = some 65 := by kernel_rfl
end

section
open Go.RowKit

theorem cntI_app (xs ys : List Int) (b : Nat) : cntI (xs ++ ys) b = cntI xs b + cntI ys b := by
  unfold cntI; rw [List.countP_append]; omega
theorem histOf_getD (zs : List Int) {b : Nat} (h : b < 65) : (histOf zs).getD b 0 = cntI zs b := by
  rw [List.getD_eq_getElem?_getD, histOf_get zs h]; rfl
theorem cols_parts (xs ys : List Int) : colsI [histOf xs, histOf ys] = histOf (xs ++ ys) := by
  unfold colsI
  rw [show histOf (xs ++ ys) = (List.range 65).map fun b => cntI (xs ++ ys) b from rfl]
  apply List.map_congr_left
  intro b hb
  have hb := List.mem_range.1 hb
  unfold colL
  rw [List.map_cons, List.map_cons, List.map_nil, histOf_getD _ hb, histOf_getD _ hb, cntI_app]
  simp
/-- Two parts, merged. -/
theorem merge_parts {xs ys : List Int} (h : xs.length + ys.length ≤ 1000000) : mergeI [histOf xs, histOf ys] = (histOf (xs ++ ys), 0) := by
  unfold mergeI
  rw [if_neg (by unfold rowsOk; simp [nonneg_hist]), cols_parts, if_neg]
  rw [List.all_eq_true.2]
  · decide
  · intro x hx
    obtain ⟨b, -, rfl⟩ := List.mem_map.1 hx
    have := cntI_bd (xs ++ ys) b
    rw [List.length_append] at this
    apply decide_eq_true
    unfold Fits; omega

theorem sum_map_range (f g : Nat → Int) : ∀ n, (∀ b, b < n → f (b + 1) = f b + g b) → f 0 + ((List.range n).map g).sum = f n
  | 0, _ => by simp
  | n + 1, h => by
    rw [List.range_succ, List.map_append, List.sum_append, ← Int.add_assoc, sum_map_range f g n (fun b hb => h b (by omega)), h n (by omega)]
    simp
/-- As many are in a histogram as its list has. -/
theorem hist_sum {zs : List Int} (hf : ∀ z ∈ zs, Fits z) : (histOf zs).sum = zs.length := by
  have := sum_map_range (lessI zs) (cntI zs) 65 fun b _ => lessI_succ zs b
  rw [lessI_zero, lessI_full hf] at this
  show ((List.range 65).map (cntI zs)).sum = _
  omega
end
end Go.Proofs.Ytmafkknnekkcdaa
