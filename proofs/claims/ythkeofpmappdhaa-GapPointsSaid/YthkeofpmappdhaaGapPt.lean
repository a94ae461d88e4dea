/- Numbers in gaps: what all gaps of a list have together, and their hull, number by number. -/
import Derived.Test.YthkeofpmappdhaaGapN
import Derived.Test.YthkeofpmappdhaaGapH
namespace Go.Proofs.Ythkeofpmappdhaa
open Go.RowKit

/-- Is the number in the gap? -/
def hasB (a b x : Int) : Bool := decide (a ≤ x ∧ x ≤ b)
/-- Is it in each? -/
def eachB (gs : List (Int × Int)) (x : Int) : Bool := gs.all fun g => hasB g.1 g.2 x
/-- Is it in one? -/
def someB (gs : List (Int × Int)) (x : Int) : Bool := gs.any fun g => hasB g.1 g.2 x
theorem eachB_next {gs : List (Int × Int)} {k : Nat} (hk : k < gs.length) (x : Int) : eachB (gs.take (k + 1)) x = (eachB (gs.take k) x && hasB gs[k].1 gs[k].2 x) := by
  unfold eachB; rw [List.take_succ_eq_append_getElem hk, List.all_append]; simp
theorem someB_next {gs : List (Int × Int)} {k : Nat} (hk : k < gs.length) (x : Int) : someB (gs.take (k + 1)) x = (someB (gs.take k) x || hasB gs[k].1 gs[k].2 x) := by
  unfold someB; rw [List.take_succ_eq_append_getElem hk, List.any_append]; simp
theorem topLo_le (gs : List (Int × Int)) : ∀ a x : Int, topLo gs a ≤ x ↔ a ≤ x ∧ ∀ g ∈ gs, g.1 ≤ x := by
  induction gs with
  | nil => intro a x; simp [topLo]
  | cons g t ih =>
    intro a x
    show topLo t (max a g.1) ≤ x ↔ _
    rw [ih]
    constructor
    · rintro ⟨h, h2⟩
      refine ⟨by omega, fun u hu => ?_⟩
      rcases List.mem_cons.1 hu with rfl | hu
      · omega
      · exact h2 u hu
    · rintro ⟨h, h2⟩
      have := h2 g (List.mem_cons_self ..)
      exact ⟨by omega, fun u hu => h2 u (List.mem_cons_of_mem _ hu)⟩
theorem le_lowHi (gs : List (Int × Int)) : ∀ b x : Int, x ≤ lowHi gs b ↔ x ≤ b ∧ ∀ g ∈ gs, x ≤ g.2 := by
  induction gs with
  | nil => intro a x; simp [lowHi]
  | cons g t ih =>
    intro a x
    show x ≤ lowHi t (min a g.2) ↔ _
    rw [ih]
    constructor
    · rintro ⟨h, h2⟩
      refine ⟨by omega, fun u hu => ?_⟩
      rcases List.mem_cons.1 hu with rfl | hu
      · omega
      · exact h2 u hu
    · rintro ⟨h, h2⟩
      have := h2 g (List.mem_cons_self ..)
      exact ⟨by omega, fun u hu => h2 u (List.mem_cons_of_mem _ hu)⟩
theorem lowLo_mem (gs : List (Int × Int)) : ∀ a : Int, lowLo gs a ≤ a ∧ ∀ g ∈ gs, lowLo gs a ≤ g.1 := by
  induction gs with
  | nil => intro a; exact ⟨Int.le_refl _, fun g hg => absurd hg (List.not_mem_nil)⟩
  | cons g t ih =>
    intro a
    obtain ⟨h1, h2⟩ := ih (min a g.1)
    show lowLo t (min a g.1) ≤ a ∧ ∀ u ∈ g :: t, lowLo t (min a g.1) ≤ u.1
    refine ⟨by omega, fun u hu => ?_⟩
    rcases List.mem_cons.1 hu with rfl | hu
    · omega
    · exact h2 u hu
theorem topHi_mem (gs : List (Int × Int)) : ∀ a : Int, a ≤ topHi gs a ∧ ∀ g ∈ gs, g.2 ≤ topHi gs a := by
  induction gs with
  | nil => intro a; exact ⟨Int.le_refl _, fun g hg => absurd hg (List.not_mem_nil)⟩
  | cons g t ih =>
    intro a
    obtain ⟨h1, h2⟩ := ih (max a g.2)
    show a ≤ topHi t (max a g.2) ∧ ∀ u ∈ g :: t, u.2 ≤ topHi t (max a g.2)
    refine ⟨by omega, fun u hu => ?_⟩
    rcases List.mem_cons.1 hu with rfl | hu
    · omega
    · exact h2 u hu
theorem eachB_iff {gs : List (Int × Int)} {x : Int} (hx : Fits x) : eachB gs x = true ↔ topLo gs (-9223372036854775808) ≤ x ∧ x ≤ lowHi gs 9223372036854775807 := by
  unfold Fits at hx
  rw [topLo_le, le_lowHi]
  unfold eachB
  rw [List.all_eq_true]
  constructor
  · intro h
    refine ⟨⟨hx.1, fun g hg => ?_⟩, hx.2, fun g hg => ?_⟩
    · exact (of_decide_eq_true (h g hg)).1
    · exact (of_decide_eq_true (h g hg)).2
  · rintro ⟨⟨_, h1⟩, _, h2⟩ g hg
    exact decide_eq_true ⟨h1 g hg, h2 g hg⟩
/-- What all have together, number by number. -/
theorem meet_points {gs : List (Int × Int)} {x m1 m2 m3 : Int} (hx : Fits x) (hr : allRight gs = true) (hm : meetI gs = (m1, m2, m3)) :
    (m3 = 0 → hasB m1 m2 x = eachB gs x ∧ m1 ≤ m2 ∧ ∀ k (h : k < gs.length), gs[k].1 ≤ m1 ∧ m2 ≤ gs[k].2) ∧ (m3 ≠ 0 → eachB gs x = false) := by
  unfold meetI at hm
  rw [if_neg (by rw [hr]; decide)] at hm
  by_cases hlt : lowHi gs 9223372036854775807 < topLo gs (-9223372036854775808)
  · rw [if_pos hlt] at hm
    injection hm with h1 hm
    injection hm with h2 h3
    refine ⟨fun h => absurd h (by omega), fun _ => ?_⟩
    rw [Bool.eq_false_iff, Ne, eachB_iff hx]
    omega
  · rw [if_neg hlt] at hm
    injection hm with h1 hm
    injection hm with h2 h3
    refine ⟨fun _ => ⟨?_, by omega, fun k hk => ?_⟩, fun h => absurd h3.symm h⟩
    · rw [Bool.eq_iff_iff, eachB_iff hx, h1, h2]
      exact ⟨of_decide_eq_true, decide_eq_true⟩
    · have k1 := ((topLo_le gs (-9223372036854775808) m1).1 (by omega)).2 _ (List.getElem_mem hk)
      have k2 := ((le_lowHi gs 9223372036854775807 m2).1 (by omega)).2 _ (List.getElem_mem hk)
      exact ⟨k1, k2⟩
/-- Their hull, number by number. -/
theorem hull_points {gs : List (Int × Int)} {x p1 p2 p3 : Int} (hr : allRight gs = true) (hm : hullI gs = (p1, p2, p3)) :
    (someB gs x = true → p3 = 0 ∧ hasB p1 p2 x = true) ∧ ∀ k (h : k < gs.length), p1 ≤ gs[k].1 ∧ gs[k].2 ≤ p2 := by
  rcases Nat.eq_zero_or_pos gs.length with h0 | h0
  · obtain rfl := List.length_eq_zero_iff.1 h0
    exact ⟨(fun h => by cases h), (fun k h => absurd h (Nat.not_lt_zero k))⟩
  rw [hull_cons h0 (by rw [hr]; decide)] at hm
  injection hm with h1 hm
  injection hm with h2 h3
  have k1 := (lowLo_mem gs gs[0].1).2
  have k2 := (topHi_mem gs gs[0].2).2
  rw [h1] at k1
  rw [h2] at k2
  refine ⟨fun h => ⟨h3.symm, ?_⟩, fun k hk => ⟨k1 _ (List.getElem_mem hk), k2 _ (List.getElem_mem hk)⟩⟩
  unfold someB at h
  obtain ⟨g, hg, hh⟩ := List.any_eq_true.1 h
  obtain ⟨q1, q2⟩ := of_decide_eq_true hh
  have := k1 g hg
  have := k2 g hg
  exact decide_eq_true ⟨by omega, by omega⟩
end Go.Proofs.Ythkeofpmappdhaa
