/- Drift as numbers: the bounds of true time, honest readings, the least rate; points in order, held against the least and the greatest lead before each. No condition. -/
import Derived.Test.YtljgfallhnlebaaNum
namespace Go.Proofs.Ytljgfallhnlebaa
open Go.RowKit

def farB (x : Int) : Bool := decide (x < -4611686018427387904 ∨ 4611686018427387904 < x)
def rateB (r : Int) : Bool := decide (0 ≤ r ∧ r ≤ 100000)
/-- The lower bound. -/
def lowQ (x r : Int) : Int := if 0 < x then max 1 (rquo (x - 1) 1000000 (1000000 + r) true) else -(rquo (1 - x) 1000000 (1000000 - r) false)
def slackQ (a r : Int) : Int := rquo a r (1000000 - r) true
/-- Low: the number and the error's number. -/
def lowP (x r : Int) : Int × Int := if farB x = true ∨ rateB r = false then (0, 11) else (lowQ x r, 0)
def highP (x r : Int) : Int × Int := if farB x = true ∨ rateB r = false then (0, 11) else (-lowQ (-x) r, 0)
def slackP (a r : Int) : Int × Int := if a < 0 ∨ farB a = true ∨ rateB r = false then (0, 11) else (slackQ a r, 0)
/-- What is answered: a number and an error's number. -/
def TwoE (p : Int × Int) (e : Ending) : Prop := e = .returned (.tuple #[.int .i64 p.1, .int .i64 p.2])

/-! rounded quotients by what they are compared with -/
theorem up_le {a b c k : Int} (hc : 0 < c) : rquo a b c true ≤ k ↔ a * b ≤ k * c := by
  have h : rquo a b c true = -((-(a * b)) / c) := rfl
  rw [h]
  have h2 : -k ≤ (-(a * b)) / c ↔ -k * c ≤ -(a * b) := Int.le_ediv_iff_mul_le hc
  rw [Int.neg_mul] at h2
  omega
theorem le_down {a b c k : Int} (hc : 0 < c) : k ≤ rquo a b c false ↔ k * c ≤ a * b := by
  have h : rquo a b c false = a * b / c := rfl
  rw [h]
  exact Int.le_ediv_iff_mul_le hc
theorem rate_iff {r : Int} : rateB r = true ↔ 0 ≤ r ∧ r ≤ 100000 := by unfold rateB; simp
theorem far_iff {x : Int} : farB x = false ↔ -4611686018427387904 ≤ x ∧ x ≤ 4611686018427387904 := by
  unfold farB
  rw [decide_eq_false_iff_not]
  omega
/-- The upper rounded quotient of the lower bound. -/
theorem upq_bd {x r : Int} (hx : 0 < x) (hr : 0 ≤ r) : 0 ≤ rquo (x - 1) 1000000 (1000000 + r) true ∧ rquo (x - 1) 1000000 (1000000 + r) true ≤ x - 1 := by
  constructor
  · have h : ¬ rquo (x - 1) 1000000 (1000000 + r) true ≤ -1 := by
      rw [up_le (by omega)]; omega
    omega
  · rw [up_le (by omega), Int.mul_add]
    have := Int.mul_nonneg (show 0 ≤ x - 1 by omega) hr
    omega
theorem downq_bd {x r : Int} (hx : x ≤ 0) (hr : 0 ≤ r) (hr2 : r ≤ 100000) : 1 - x ≤ rquo (1 - x) 1000000 (1000000 - r) false ∧ rquo (1 - x) 1000000 (1000000 - r) false ≤ (1 - x) * 10 / 9 := by
  constructor
  · rw [le_down (by omega), Int.mul_sub]
    have := Int.mul_nonneg (show 0 ≤ 1 - x by omega) hr
    omega
  · have h : ¬ ((1 - x) * 10 / 9 + 1 ≤ rquo (1 - x) 1000000 (1000000 - r) false) := by
      rw [le_down (by omega)]
      have h1 : 0 ≤ (1 - x) * 10 / 9 + 1 := by omega
      have h2 : ((1 - x) * 10 / 9 + 1) * 900000 ≤ ((1 - x) * 10 / 9 + 1) * (1000000 - r) := Int.mul_le_mul_of_nonneg_left (by omega) h1
      omega
    omega
theorem slackq_bd {a r : Int} (ha : 0 ≤ a) (hr : 0 ≤ r) (hr2 : r ≤ 100000) : 0 ≤ slackQ a r ∧ slackQ a r ≤ a := by
  unfold slackQ
  constructor
  · have h : ¬ rquo a r (1000000 - r) true ≤ -1 := by
      rw [up_le (by omega)]
      have := Int.mul_nonneg ha hr
      omega
    omega
  · rw [up_le (by omega)]
    exact Int.mul_le_mul_of_nonneg_left (by omega) ha
/-- The lower bound is no more than one above the distance: and below it, where this isn't above zero. -/
theorem lowQ_le {x r : Int} (hr : 0 ≤ r) (hr2 : r ≤ 100000) : lowQ x r ≤ max 1 (x - 1) ∧ (x ≤ 0 → lowQ x r ≤ x - 1) := by
  unfold lowQ
  by_cases h : 0 < x
  · rw [if_pos h]
    have := upq_bd h hr
    omega
  · rw [if_neg h]
    have := downq_bd (show x ≤ 0 by omega) hr hr2
    omega
theorem lowQ_fits {x r : Int} (hx : farB x = false) (hr : 0 ≤ r) (hr2 : r ≤ 100000) : -6917529027641081856 ≤ lowQ x r ∧ lowQ x r ≤ 4611686018427387904 := by
  have hx := far_iff.1 hx
  unfold lowQ
  by_cases h : 0 < x
  · rw [if_pos h]
    have := upq_bd h hr
    omega
  · rw [if_neg h]
    have := downq_bd (show x ≤ 0 by omega) hr hr2
    omega
/-- Of a greater distance the lower bound is as great, or greater. -/
theorem lowQ_rises {x y r : Int} (hr : 0 ≤ r) (hr2 : r ≤ 100000) (h : x ≤ y) : lowQ x r ≤ lowQ y r := by
  by_cases hx : 0 < x
  · have hy : 0 < y := by omega
    unfold lowQ
    rw [if_pos hx, if_pos hy]
    have : rquo (x - 1) 1000000 (1000000 + r) true ≤ rquo (y - 1) 1000000 (1000000 + r) true := by
      rw [up_le (by omega)]
      have := (up_le (a := y - 1) (b := 1000000) (k := rquo (y - 1) 1000000 (1000000 + r) true) (show 0 < 1000000 + r by omega)).1 (Int.le_refl _)
      omega
    omega
  · have h1 := (lowQ_le (x := x) hr hr2).2 (by omega)
    by_cases hy : 0 < y
    · have : 1 ≤ lowQ y r := by unfold lowQ; rw [if_pos hy]; omega
      omega
    · unfold lowQ
      rw [if_neg hx, if_neg hy]
      have : rquo (1 - y) 1000000 (1000000 - r) false ≤ rquo (1 - x) 1000000 (1000000 - r) false := by
        rw [le_down (by omega)]
        have := (le_down (a := 1 - y) (b := 1000000) (k := rquo (1 - y) 1000000 (1000000 - r) false) (show 0 < 1000000 - r by omega)).1 (Int.le_refl _)
        omega
      omega
/-- How far the lower bound is from the distance. -/
theorem lowQ_near {x r : Int} (hr : 0 ≤ r) (hr2 : r ≤ 100000) : x - lowQ x r ≤ slackQ (max x (-x)) r + 2 := by
  have hs := (up_le (a := max x (-x)) (b := r) (k := slackQ (max x (-x)) r) (show 0 < 1000000 - r by omega)).1 (Int.le_refl _)
  have hb := slackq_bd (a := max x (-x)) (r := r) (by omega) hr hr2
  generalize slackQ (max x (-x)) r = s at *
  unfold lowQ
  by_cases hx : 0 < x
  · rw [if_pos hx]
    rw [show max x (-x) = x by omega] at *
    have h : ¬ (rquo (x - 1) 1000000 (1000000 + r) true ≤ x - s - 3) := by
      rw [up_le (by omega)]
      intro h
      have e1 : (x - s - 3) * (1000000 + r) = 1000000 * x - 1000000 * s - 3000000 + (x * r - s * r - 3 * r) := by
        have e3 : (x - s - 3) * r = x * r - s * r - 3 * r := by rw [Int.sub_mul, Int.sub_mul]
        rw [Int.mul_add]; omega
      have e2 : s * (1000000 - r) = 1000000 * s - s * r := by rw [Int.mul_sub]; omega
      have := Int.mul_nonneg hb.1 hr
      omega
    omega
  · rw [if_neg hx]
    rw [show max x (-x) = -x by omega] at *
    have h : ¬ (s + 3 - x ≤ rquo (1 - x) 1000000 (1000000 - r) false) := by
      rw [le_down (by omega)]
      have e1 : (s + 3 - x) * (1000000 - r) = s * (1000000 - r) + 3 * (1000000 - r) - (1000000 * x - x * r) := by
        rw [Int.sub_mul, Int.add_mul, Int.mul_sub x]; omega
      have e2 : -x * r = -(x * r) := Int.neg_mul _ _
      omega
    omega

/-! honest readings -/
/-- May two points, the second one not ahead of the first, be so by a rate? -/
def pairB (r : Int) (p q : Int × Int) : Bool := decide (q.1 < p.1 ∨ (p.2 ≤ q.2 ∧ (max (q.2 - p.2 - (q.1 - p.1)) (q.1 - p.1 - (q.2 - p.2)) - 1) * 1000000 ≤ r * (q.1 - p.1)))
def timeB (p : Int × Int) : Bool := decide (0 ≤ p.1 ∧ p.1 ≤ 4611686018427387903 ∧ 0 ≤ p.2 ∧ p.2 ≤ 4611686018427387903)
def pairsB (r : Int) (gs : List (Int × Int)) : Bool := gs.all fun p => gs.all fun q => pairB r p q
def honestB (r : Int) (gs : List (Int × Int)) : Bool := rateB r && (gs.all timeB && pairsB r gs)
theorem honest_iff {r : Int} {gs : List (Int × Int)} : honestB r gs = true ↔ (0 ≤ r ∧ r ≤ 100000) ∧ (∀ p ∈ gs, timeB p = true) ∧ ∀ p ∈ gs, ∀ q ∈ gs, pairB r p q = true := by
  unfold honestB pairsB
  rw [Bool.and_eq_true, Bool.and_eq_true, rate_iff, List.all_eq_true, List.all_eq_true]
  constructor
  · rintro ⟨h1, h2, h3⟩
    exact ⟨h1, h2, fun p hp => List.all_eq_true.1 (h3 p hp)⟩
  · rintro ⟨h1, h2, h3⟩
    exact ⟨h1, h2, fun p hp => List.all_eq_true.2 (h3 p hp)⟩
theorem pair_more {r s : Int} {p q : Int × Int} (h : r ≤ s) (hp : pairB r p q = true) : pairB s p q = true := by
  have hp := of_decide_eq_true hp
  refine decide_eq_true ?_
  rcases hp with hp | ⟨h1, h2⟩
  · exact Or.inl hp
  · by_cases hlt : q.1 < p.1
    · exact Or.inl hlt
    · refine Or.inr ⟨h1, ?_⟩
      have := Int.mul_le_mul_of_nonneg_right h (show 0 ≤ q.1 - p.1 by omega)
      omega
theorem honest_more {r s : Int} {gs : List (Int × Int)} (h : r ≤ s) (hs : s ≤ 100000) (hh : honestB r gs = true) : honestB s gs = true := by
  obtain ⟨h1, h2, h3⟩ := honest_iff.1 hh
  exact honest_iff.2 ⟨⟨by omega, hs⟩, h2, fun p hp q hq => pair_more h (h3 p hp q hq)⟩
theorem honest_part {r : Int} {gs hs : List (Int × Int)} (h : ∀ p ∈ hs, p ∈ gs) (hh : honestB r gs = true) : honestB r hs = true := by
  obtain ⟨h1, h2, h3⟩ := honest_iff.1 hh
  exact honest_iff.2 ⟨h1, fun p hp => h2 p (h p hp), fun p hp q hq => h3 p (h p hp) q (h q hq)⟩
/-- The true time between two readings isn't below the lower bound. -/
theorem low_sound {r : Int} {p q : Int × Int} (hr : 0 ≤ r) (hr2 : r ≤ 100000) (h1 : pairB r p q = true) (h2 : pairB r q p = true) : lowQ (q.2 - p.2) r ≤ q.1 - p.1 := by
  have h1 := of_decide_eq_true h1
  have h2 := of_decide_eq_true h2
  by_cases hd : 0 ≤ q.1 - p.1
  · rcases h1 with h1 | ⟨h1, h3⟩
    · omega
    by_cases hx : 0 < q.2 - p.2
    · have hd1 : 1 ≤ q.1 - p.1 := by
        rcases h2 with h2 | ⟨h2, _⟩ <;> omega
      have : rquo (q.2 - p.2 - 1) 1000000 (1000000 + r) true ≤ q.1 - p.1 := by
        rw [up_le (by omega), Int.mul_add, Int.mul_comm (q.1 - p.1) r]
        omega
      unfold lowQ
      rw [if_pos hx]
      omega
    · have := (lowQ_le (x := q.2 - p.2) hr hr2).2 (by omega)
      omega
  · rcases h2 with h2 | ⟨h2, h3⟩
    · omega
    have hx : ¬ 0 < q.2 - p.2 := by omega
    have : p.1 - q.1 ≤ rquo (1 - (q.2 - p.2)) 1000000 (1000000 - r) false := by
      rw [le_down (by omega), Int.mul_sub, Int.mul_comm (p.1 - q.1) r]
      omega
    unfold lowQ
    rw [if_neg hx]
    omega

/-! the least rate -/
def leastFrom (gs : List (Int × Int)) : Nat → Int → Int × Bool
  | 0, _ => (0, false)
  | f + 1, n => if honestB n gs = true then (n, true) else leastFrom gs f (n + 1)
/-- The least rate, and if there is one. -/
def leastI (gs : List (Int × Int)) : Int × Bool := leastFrom gs 100001 0
theorem leastFrom_some {gs : List (Int × Int)} {m : Int} (hm : honestB m gs = true) : ∀ (f : Nat) (n : Int), n ≤ m → m - n < f → (∀ j, n ≤ j → j < m → honestB j gs = false) → leastFrom gs f n = (m, true) := by
  intro f
  induction f with
  | zero => intro n h1 h2 _; omega
  | succ f ih =>
    intro n h1 h2 h3
    unfold leastFrom
    by_cases e : n = m
    · subst e; rw [if_pos hm]
    · rw [if_neg (by rw [h3 n (Int.le_refl _) (by omega)]; decide)]
      exact ih (n + 1) (by omega) (by omega) fun j hj hjm => h3 j (by omega) hjm
theorem leastFrom_none {gs : List (Int × Int)} : ∀ (f : Nat) (n : Int), (∀ j, honestB j gs = false) → leastFrom gs f n = (0, false) := by
  intro f
  induction f with
  | zero => intro n _; rfl
  | succ f ih =>
    intro n h
    unfold leastFrom
    rw [if_neg (by rw [h n]; decide)]
    exact ih _ h
theorem leastI_some {gs : List (Int × Int)} {m : Int} (h0 : 0 ≤ m) (h1 : m ≤ 100000) (hm : honestB m gs = true) (hl : ∀ j, 0 ≤ j → j < m → honestB j gs = false) : leastI gs = (m, true) :=
  leastFrom_some hm _ _ h0 (by omega) hl
theorem leastI_none {gs : List (Int × Int)} (h : honestB 100000 gs = false) : leastI gs = (0, false) := by
  refine leastFrom_none _ _ fun j => ?_
  cases hj : honestB j gs with
  | false => rfl
  | true =>
    have := honest_iff.1 hj
    rw [honest_more (show j ≤ 100000 by omega) (by omega) hj] at h
    cases h
theorem least_cases (gs : List (Int × Int)) : (honestB 100000 gs = false ∧ leastI gs = (0, false)) ∨ ∃ m, 0 ≤ m ∧ m ≤ 100000 ∧ honestB m gs = true ∧ (∀ j, 0 ≤ j → j < m → honestB j gs = false) ∧ leastI gs = (m, true) := by
  cases h : honestB 100000 gs with
  | false => exact Or.inl ⟨rfl, leastI_none h⟩
  | true =>
    refine Or.inr ?_
    have key : ∀ (k : Nat), k ≤ 100000 → honestB k gs = true → ∃ m : Int, 0 ≤ m ∧ m ≤ 100000 ∧ honestB m gs = true ∧ ∀ j, 0 ≤ j → j < m → honestB j gs = false := by
      intro k
      induction k with
      | zero => intro hk hh; exact ⟨0, by omega, by omega, hh, fun j h1 h2 => by omega⟩
      | succ k ih =>
        intro hk hh
        cases hb : honestB (k : Int) gs with
        | true => exact ih (by omega) hb
        | false =>
          refine ⟨((k + 1 : Nat) : Int), by omega, by omega, hh, fun j h1 h2 => ?_⟩
          cases hj : honestB j gs with
          | false => rfl
          | true =>
            rw [honest_more (show j ≤ (k : Int) by omega) (by omega) hj] at hb
            cases hb
    obtain ⟨m, a, b, c, d⟩ := key 100000 (Nat.le_refl _) h
    exact ⟨m, a, b, c, d, leastI_some a b c d⟩

/-! points in order: that one clock may show them, and keeps to a rate, held against the least and the greatest lead before each -/
/-- By how many millionths of a tick a point is ahead of a clock of that pace. -/
def leadI (p : Int × Int) (pace : Int) : Int := p.2 * 1000000 - p.1 * pace
def fastI (r : Int) (p : Int × Int) : Int := leadI p (1000000 + r)
def slowI (r : Int) (p : Int × Int) : Int := leadI p (1000000 - r)
/-- May one clock show a point and then the other one, at whatever rate? -/
def followB (p q : Int × Int) : Bool := if p.1 = q.1 then decide (p.2 = q.2) else decide (p.2 ≤ q.2)
/-- All numbers are times, each point may follow the one before it. -/
def orderedB (gs : List (Int × Int)) : Bool := decide (∀ i, i < gs.length → timeB (gs.getD i (0, 0)) = true ∧ (i + 1 < gs.length → followB (gs.getD i (0, 0)) (gs.getD (i + 1) (0, 0)) = true))
def okB (r : Int) (p q : Int × Int) : Bool := decide (fastI r q - fastI r p ≤ 1000000 ∧ slowI r p - slowI r q ≤ 1000000)
/-- Every two of the points keep to the rate. -/
def steadyB (r : Int) (gs : List (Int × Int)) : Bool := decide (∀ j, j < gs.length → ∀ i, i < j → okB r (gs.getD i (0, 0)) (gs.getD j (0, 0)) = true)
/-- In order of true times, and of readings where these are the same. -/
def lexB (p q : Int × Int) : Bool := decide (p.1 < q.1 ∨ (p.1 = q.1 ∧ p.2 < q.2))
def SortedG (gs : List (Int × Int)) : Prop := ∀ i j, i < j → j < gs.length → lexB (gs.getD j (0, 0)) (gs.getD i (0, 0)) = false

theorem getD_mem {gs : List (Int × Int)} {i : Nat} (h : i < gs.length) : gs.getD i (0, 0) ∈ gs := by
  rw [List.getD_eq_getElem?_getD, List.getElem?_eq_getElem h]
  exact List.getElem_mem h
theorem mem_getD {gs : List (Int × Int)} {p : Int × Int} (h : p ∈ gs) : ∃ i, i < gs.length ∧ gs.getD i (0, 0) = p := by
  obtain ⟨i, hi, e⟩ := List.mem_iff_getElem.1 h
  exact ⟨i, hi, by rw [List.getD_eq_getElem?_getD, List.getElem?_eq_getElem hi]; exact e⟩
theorem time_iff {p : Int × Int} : timeB p = true ↔ 0 ≤ p.1 ∧ p.1 ≤ 4611686018427387903 ∧ 0 ≤ p.2 ∧ p.2 ≤ 4611686018427387903 := by unfold timeB; exact decide_eq_true_iff
theorem fast_eq (r : Int) (p : Int × Int) : fastI r p = 1000000 * p.2 - 1000000 * p.1 - p.1 * r := by unfold fastI leadI; rw [Int.mul_add]; omega
theorem slow_eq (r : Int) (p : Int × Int) : slowI r p = 1000000 * p.2 - 1000000 * p.1 + p.1 * r := by unfold slowI leadI; rw [Int.mul_sub]; omega
theorem ok_iff {r : Int} {p q : Int × Int} : okB r p q = true ↔ (max (q.2 - p.2 - (q.1 - p.1)) (q.1 - p.1 - (q.2 - p.2)) - 1) * 1000000 ≤ r * (q.1 - p.1) := by
  unfold okB
  rw [decide_eq_true_iff, fast_eq, fast_eq, slow_eq, slow_eq, Int.mul_sub, Int.mul_comm r q.1, Int.mul_comm r p.1]
  generalize p.1 * r = x
  generalize q.1 * r = y
  omega
theorem ordered_iff {gs : List (Int × Int)} : orderedB gs = true ↔ ∀ i, i < gs.length → timeB (gs.getD i (0, 0)) = true ∧ (i + 1 < gs.length → followB (gs.getD i (0, 0)) (gs.getD (i + 1) (0, 0)) = true) := by unfold orderedB; exact decide_eq_true_iff
theorem steady_iff {r : Int} {gs : List (Int × Int)} : steadyB r gs = true ↔ ∀ j, j < gs.length → ∀ i, i < j → okB r (gs.getD i (0, 0)) (gs.getD j (0, 0)) = true := by unfold steadyB; exact decide_eq_true_iff
theorem ordered_times {gs : List (Int × Int)} (h : orderedB gs = true) : ∀ p ∈ gs, timeB p = true := fun p hp => by
  obtain ⟨i, hi, rfl⟩ := mem_getD hp
  exact (ordered_iff.1 h i hi).1
theorem lex_le {p q : Int × Int} (h : lexB q p = false) : p.1 ≤ q.1 ∧ (p.1 = q.1 → p.2 ≤ q.2) := by
  have := of_decide_eq_false h
  omega
theorem follow_iff {p q : Int × Int} : followB p q = true ↔ (p.1 = q.1 → p.2 = q.2) ∧ p.2 ≤ q.2 := by
  unfold followB
  split
  · rw [decide_eq_true_iff]; omega
  · rw [decide_eq_true_iff]; omega
/-- Along points in order the readings never fall, and are the same where the true times are. -/
theorem ordered_chain {gs : List (Int × Int)} (hs : SortedG gs) (h : orderedB gs = true) : ∀ (k i : Nat), i + k < gs.length → ((gs.getD i (0, 0)).1 = (gs.getD (i + k) (0, 0)).1 → (gs.getD i (0, 0)).2 = (gs.getD (i + k) (0, 0)).2) ∧ (gs.getD i (0, 0)).2 ≤ (gs.getD (i + k) (0, 0)).2 := by
  intro k
  induction k with
  | zero => intro i _; exact ⟨fun _ => rfl, Int.le_refl _⟩
  | succ k ih =>
    intro i hi
    obtain ⟨h1, h2⟩ := ih i (by omega)
    obtain ⟨h3, h4⟩ := follow_iff.1 ((ordered_iff.1 h (i + k) (by omega)).2 (by omega))
    have e1 := (lex_le (hs (i + k) (i + k + 1) (by omega) (by omega))).1
    rw [show i + (k + 1) = i + k + 1 by omega]
    refine ⟨fun e => ?_, by omega⟩
    have e2 : (gs.getD i (0, 0)).1 ≤ (gs.getD (i + k) (0, 0)).1 := by
      by_cases h0 : k = 0
      · subst h0; exact Int.le_refl _
      · exact (lex_le (hs i (i + k) (by omega) (by omega))).1
    rw [h1 (by omega), h3 (by omega)]
/-- In order, honest readings are those that are in order and steady. -/
theorem honest_steady {r : Int} {gs : List (Int × Int)} (hs : SortedG gs) : honestB r gs = (rateB r && (orderedB gs && steadyB r gs)) := by
  cases hr : rateB r with
  | false => unfold honestB; rw [hr]; rfl
  | true =>
    rw [Bool.true_and, Bool.eq_iff_iff, Bool.and_eq_true]
    have hr := rate_iff.1 hr
    constructor
    · intro h
      obtain ⟨-, ht, hp⟩ := honest_iff.1 h
      constructor
      · refine ordered_iff.2 fun i hi => ⟨ht _ (getD_mem hi), fun hi1 => ?_⟩
        have h1 := of_decide_eq_true (hp _ (getD_mem hi) _ (getD_mem hi1))
        have h2 := of_decide_eq_true (hp _ (getD_mem hi1) _ (getD_mem hi))
        have h3 := (lex_le (hs i (i + 1) (by omega) hi1)).1
        refine follow_iff.2 ⟨fun e => ?_, ?_⟩
        · rcases h1 with h1 | h1 <;> rcases h2 with h2 | h2 <;> omega
        · rcases h1 with h1 | h1 <;> omega
      · refine steady_iff.2 fun j hj i hij => ?_
        have h1 := of_decide_eq_true (hp _ (getD_mem (show i < gs.length by omega)) _ (getD_mem hj))
        have h3 := (lex_le (hs i j hij hj)).1
        rcases h1 with h1 | h1
        · omega
        · exact ok_iff.2 h1.2
    · rintro ⟨ho, hst⟩
      refine honest_iff.2 ⟨hr, ordered_times ho, fun p hp q hq => ?_⟩
      obtain ⟨i, hi, rfl⟩ := mem_getD hp
      obtain ⟨j, hj, rfl⟩ := mem_getD hq
      refine decide_eq_true ?_
      rcases Nat.lt_trichotomy i j with hij | hij | hij
      · have h1 := ok_iff.1 (steady_iff.1 hst j hj i hij)
        have h2 := ordered_chain hs ho (j - i) i (by omega)
        rw [show i + (j - i) = j by omega] at h2
        exact Or.inr ⟨h2.2, h1⟩
      · subst hij
        refine Or.inr ⟨Int.le_refl _, ?_⟩
        rw [Int.sub_self, Int.sub_self, Int.mul_zero]; omega
      · have h2 := ordered_chain hs ho (i - j) j (by omega)
        rw [show j + (i - j) = i by omega] at h2
        have h3 := (lex_le (hs j i hij hi)).1
        by_cases e : (gs.getD j (0, 0)).1 < (gs.getD i (0, 0)).1
        · exact Or.inl e
        · have e1 : (gs.getD j (0, 0)).1 = (gs.getD i (0, 0)).1 := by omega
          refine Or.inr ⟨by rw [h2.1 e1]; exact Int.le_refl _, ?_⟩
          rw [h2.1 e1, e1, Int.sub_self, Int.sub_self, Int.mul_zero]; omega
/-- Which points are honest has no order. -/
theorem honest_perm {r : Int} {gs hs : List (Int × Int)} (h : ∀ p, p ∈ gs ↔ p ∈ hs) : honestB r gs = honestB r hs := by
  rw [Bool.eq_iff_iff, honest_iff, honest_iff]
  constructor
  · rintro ⟨h1, h2, h3⟩
    exact ⟨h1, fun p hp => h2 p ((h p).2 hp), fun p hp q hq => h3 p ((h p).2 hp) q ((h q).2 hq)⟩
  · rintro ⟨h1, h2, h3⟩
    exact ⟨h1, fun p hp => h2 p ((h p).1 hp), fun p hp q hq => h3 p ((h p).1 hp) q ((h q).1 hq)⟩
theorem steady_more {r s : Int} {gs : List (Int × Int)} (hs : SortedG gs) (ho : orderedB gs = true) (h0 : 0 ≤ r) (h : r ≤ s) (h1 : s ≤ 100000) (hst : steadyB r gs = true) : steadyB s gs = true := by
  have e : honestB r gs = true := by rw [honest_steady hs, ho, hst, rate_iff.2 ⟨h0, by omega⟩]; rfl
  have e2 := honest_more h h1 e
  rw [honest_steady hs, ho, rate_iff.2 ⟨by omega, h1⟩] at e2
  simpa using e2

/-! the least and the greatest lead before a point -/
/-- x is the least of the first k values (what it is for none is left open). -/
def LeastOf (f : Int × Int → Int) (gs : List (Int × Int)) (k : Nat) (x : Int) : Prop := (∀ j, j < k → x ≤ f (gs.getD j (0, 0))) ∧ (k = 0 ∨ ∃ j, j < k ∧ x = f (gs.getD j (0, 0)))
def MostOf (f : Int × Int → Int) (gs : List (Int × Int)) (k : Nat) (x : Int) : Prop := (∀ j, j < k → f (gs.getD j (0, 0)) ≤ x) ∧ (k = 0 ∨ ∃ j, j < k ∧ x = f (gs.getD j (0, 0)))
section
variable {f : Int × Int → Int} {gs : List (Int × Int)} {k : Nat} {x : Int}
theorem LeastOf.none (f : Int × Int → Int) (gs : List (Int × Int)) (x : Int) : LeastOf f gs 0 x := ⟨fun _ h => absurd h (by omega), Or.inl rfl⟩
theorem MostOf.none (f : Int × Int → Int) (gs : List (Int × Int)) (x : Int) : MostOf f gs 0 x := ⟨fun _ h => absurd h (by omega), Or.inl rfl⟩
theorem LeastOf.take_ (h : LeastOf f gs k x) (hn : k = 0 ∨ f (gs.getD k (0, 0)) < x) : LeastOf f gs (k + 1) (f (gs.getD k (0, 0))) := by
  refine ⟨fun j hj => ?_, Or.inr ⟨k, by omega, rfl⟩⟩
  by_cases e : j = k
  · subst e; exact Int.le_refl _
  · have := h.1 j (by omega)
    omega
theorem LeastOf.keep (h : LeastOf f gs k x) (h0 : 0 < k) (hn : x ≤ f (gs.getD k (0, 0))) : LeastOf f gs (k + 1) x := by
  refine ⟨fun j hj => ?_, ?_⟩
  · by_cases e : j = k
    · subst e; exact hn
    · exact h.1 j (by omega)
  · rcases h.2 with h2 | ⟨j, hj, e⟩
    · omega
    · exact Or.inr ⟨j, by omega, e⟩
theorem MostOf.take_ (h : MostOf f gs k x) (hn : k = 0 ∨ x < f (gs.getD k (0, 0))) : MostOf f gs (k + 1) (f (gs.getD k (0, 0))) := by
  refine ⟨fun j hj => ?_, Or.inr ⟨k, by omega, rfl⟩⟩
  by_cases e : j = k
  · subst e; exact Int.le_refl _
  · have := h.1 j (by omega)
    omega
theorem MostOf.keep (h : MostOf f gs k x) (h0 : 0 < k) (hn : f (gs.getD k (0, 0)) ≤ x) : MostOf f gs (k + 1) x := by
  refine ⟨fun j hj => ?_, ?_⟩
  · by_cases e : j = k
    · subst e; exact hn
    · exact h.1 j (by omega)
  · rcases h.2 with h2 | ⟨j, hj, e⟩
    · omega
    · exact Or.inr ⟨j, by omega, e⟩
end
/-- The points up to k keep to the rate. -/
def SteadyTo (r : Int) (gs : List (Int × Int)) (k : Nat) : Prop := ∀ j, j < k → ∀ i, i < j → okB r (gs.getD i (0, 0)) (gs.getD j (0, 0)) = true
theorem SteadyTo.none (r : Int) (gs : List (Int × Int)) : SteadyTo r gs 0 := fun _ h => absurd h (by omega)
theorem SteadyTo.all {r : Int} {gs : List (Int × Int)} (h : SteadyTo r gs gs.length) : steadyB r gs = true := steady_iff.2 h
theorem SteadyTo.next {r : Int} {gs : List (Int × Int)} {k : Nat} {lo hi : Int} (h : SteadyTo r gs k) (hl : LeastOf (fastI r) gs (k + 1) lo) (hm : MostOf (slowI r) gs (k + 1) hi)
    (h1 : ¬ 1000000 < fastI r (gs.getD k (0, 0)) - lo) (h2 : ¬ 1000000 < hi - slowI r (gs.getD k (0, 0))) : SteadyTo r gs (k + 1) := by
  intro j hj i hij
  by_cases e : j = k
  · subst e
    refine decide_eq_true ⟨?_, ?_⟩
    · have := hl.1 i (by omega); omega
    · have := hm.1 i (by omega); omega
  · exact h j (by omega) i hij
theorem steady_fast {r : Int} {gs : List (Int × Int)} {k : Nat} {lo : Int} (hk : k < gs.length) (hl : LeastOf (fastI r) gs (k + 1) lo) (h1 : 1000000 < fastI r (gs.getD k (0, 0)) - lo) : steadyB r gs = false := by
  cases hb : steadyB r gs with
  | false => rfl
  | true =>
    rcases hl.2 with h2 | ⟨j, hj, e⟩
    · omega
    · by_cases ej : j = k
      · subst ej; omega
      · have := of_decide_eq_true (steady_iff.1 hb k hk j (by omega))
        omega
theorem steady_slow {r : Int} {gs : List (Int × Int)} {k : Nat} {hi : Int} (hk : k < gs.length) (hm : MostOf (slowI r) gs (k + 1) hi) (h1 : 1000000 < hi - slowI r (gs.getD k (0, 0))) : steadyB r gs = false := by
  cases hb : steadyB r gs with
  | false => rfl
  | true =>
    rcases hm.2 with h2 | ⟨j, hj, e⟩
    · omega
    · by_cases ej : j = k
      · subst ej; omega
      · have := of_decide_eq_true (steady_iff.1 hb k hk j (by omega))
        omega
/-- Leads of times are not great. -/
def Lead (x : Int) : Prop := -20000000000000000000000000 ≤ x ∧ x ≤ 20000000000000000000000000
theorem lead_fast {r : Int} {p : Int × Int} (ht : timeB p = true) (h0 : 0 ≤ r) (h1 : r ≤ 100000) : Lead (fastI r p) := by
  have ht := time_iff.1 ht
  rw [fast_eq]
  have h2 : 0 ≤ p.1 * r := Int.mul_nonneg ht.1 h0
  have h3 : p.1 * r ≤ p.1 * 100000 := Int.mul_le_mul_of_nonneg_left h1 ht.1
  unfold Lead
  omega
theorem lead_slow {r : Int} {p : Int × Int} (ht : timeB p = true) (h0 : 0 ≤ r) (h1 : r ≤ 100000) : Lead (slowI r p) := by
  have ht := time_iff.1 ht
  rw [slow_eq]
  have h2 : 0 ≤ p.1 * r := Int.mul_nonneg ht.1 h0
  have h3 : p.1 * r ≤ p.1 * 100000 := Int.mul_le_mul_of_nonneg_left h1 ht.1
  unfold Lead
  omega

/-! the least rate, found by halves -/
/-- How many rates below 100001 aren't enough, of points in order. -/
theorem least_steady {gs : List (Int × Int)} (hs : SortedG gs) (ho : orderedB gs = true) {m : Int} (h0 : 0 ≤ m) (h1 : m ≤ 100001) (hlt : ∀ j, 0 ≤ j → j < m → steadyB j gs = false) (hm : m ≤ 100000 → steadyB m gs = true) :
    leastI gs = if m ≤ 100000 then (m, true) else (0, false) := by
  split
  · next h =>
    refine leastI_some h0 h ?_ fun j hj hjm => ?_
    · rw [honest_steady hs, ho, hm h, rate_iff.2 ⟨h0, h⟩]; rfl
    · rw [honest_steady hs, ho, hlt j hj hjm]
      cases rateB j <;> rfl
  · next h =>
    refine leastI_none ?_
    rw [honest_steady hs, ho, hlt 100000 (by omega) (by omega)]
    cases rateB 100000 <;> rfl
theorem least_unordered {gs : List (Int × Int)} (hs : SortedG gs) (ho : orderedB gs = false) : leastI gs = (0, false) := by
  refine leastI_none ?_
  rw [honest_steady hs, ho]
  cases rateB 100000 <;> rfl
theorem leastFrom_perm {gs hs : List (Int × Int)} (h : ∀ p, p ∈ gs ↔ p ∈ hs) : ∀ (f : Nat) (n : Int), leastFrom gs f n = leastFrom hs f n
  | 0, _ => rfl
  | f + 1, n => by unfold leastFrom; rw [honest_perm (r := n) h, leastFrom_perm h f (n + 1)]
theorem least_perm {gs hs : List (Int × Int)} (h : ∀ p, p ∈ gs ↔ p ∈ hs) : leastI gs = leastI hs := leastFrom_perm h _ _
end Go.Proofs.Ytljgfallhnlebaa
