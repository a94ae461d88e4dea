/- The buckets whose count isn't zero, in their order: what has come and what is to come, as numbers. -/
import Derived.Test.YtmafkknnekkcdaaHstC
namespace Go.Proofs.Ytmafkknnekkcdaa
open Go.RowKit

/-- A bucket, if its count isn't zero. -/
def bktG (hs : List Int) (b : Nat) : Option (Int × Int) := if hs.getD b 0 = 0 then none else some (((b : Nat) : Int), hs.getD b 0)
/-- Those from bucket k on. -/
def fullK (hs : List Int) (k : Nat) : List (Int × Int) := (List.range' k (65 - k)).filterMap (bktG hs)
theorem fullL_eq (hs : List Int) : fullL hs = fullK hs 0 := by
  unfold fullL fullK
  rw [List.range_eq_range']
  rfl
/-- Where the next bucket may be, behind those that have come. -/
def nxF : Nat → List (Int × Int) → Nat
  | k, [] => k
  | _, p :: t => nxF (p.1.toNat + 1) t
theorem nxF_snoc (q : Int × Int) : ∀ (ps : List (Int × Int)) (k : Nat), nxF k (ps ++ [q]) = q.1.toNat + 1
  | [], _ => rfl
  | p :: t, _ => nxF_snoc q t (p.1.toNat + 1)
theorem fullK_step (hs : List Int) {k : Nat} (hk : k < 65) : fullK hs k = (if hs.getD k 0 = 0 then fullK hs (k + 1) else (((k : Nat) : Int), hs.getD k 0) :: fullK hs (k + 1)) := by
  unfold fullK
  rw [show 65 - k = (65 - (k + 1)) + 1 by omega, List.range'_succ, List.filterMap_cons]
  by_cases h : hs.getD k 0 = 0
  · rw [show bktG hs k = none from if_pos h, if_pos h]
  · rw [show bktG hs k = some (((k : Nat) : Int), hs.getD k 0) from if_neg h, if_neg h]
theorem fullK_head (hs : List Int) {p : Int × Int} {t : List (Int × Int)} : ∀ (d k : Nat), 65 - k = d → fullK hs k = p :: t →
    ∃ b : Nat, p = ((b : Int), hs.getD b 0) ∧ k ≤ b ∧ b < 65 ∧ hs.getD b 0 ≠ 0 ∧ (∀ i, k ≤ i → i < b → hs.getD i 0 = 0) ∧ t = fullK hs (b + 1) := by
  intro d
  induction d with
  | zero =>
    intro k hk h
    unfold fullK at h
    rw [hk] at h
    cases h
  | succ d ih =>
    intro k hk h
    rw [fullK_step hs (by omega)] at h
    by_cases h0 : hs.getD k 0 = 0
    · rw [if_pos h0] at h
      obtain ⟨b, e, h1, h2, h3, h4, h5⟩ := ih (k + 1) (by omega) h
      exact ⟨b, e, by omega, h2, h3, fun i hi hib => by
        by_cases e : i = k
        · subst e; exact h0
        · exact h4 i (by omega) hib, h5⟩
    · rw [if_neg h0] at h
      injection h with h1 h2
      exact ⟨k, h1.symm, Nat.le_refl _, by omega, h0, fun i hi hib => absurd hib (by omega), h2.symm⟩
theorem fullK_rest (hs : List Int) {rest : List (Int × Int)} : ∀ (ps : List (Int × Int)) (k : Nat), k ≤ 65 → fullK hs k = ps ++ rest → rest = fullK hs (nxF k ps) ∧ k ≤ nxF k ps ∧ nxF k ps ≤ 65
  | [], k, hk, h => ⟨h.symm, Nat.le_refl _, hk⟩
  | p :: t, k, hk, h => by
    obtain ⟨b, e, h1, h2, _, _, h5⟩ := fullK_head hs (65 - k) k rfl h
    have hb : p.1.toNat = b := by rw [e]; simp
    obtain ⟨r1, r2, r3⟩ := fullK_rest hs t (b + 1) (by omega) h5.symm
    show rest = fullK hs (nxF (p.1.toNat + 1) t) ∧ k ≤ nxF (p.1.toNat + 1) t ∧ nxF (p.1.toNat + 1) t ≤ 65
    rw [hb]
    exact ⟨r1, by omega, r3⟩
/-- What comes next. -/
theorem full_next {hs : List Int} {ps : List (Int × Int)} {b : Nat} {c : Int} (h : ps ++ [((b : Int), c)] <+: fullL hs) : nxF 0 ps ≤ b ∧ ∀ i, nxF 0 ps ≤ i → i < b → hs.getD i 0 = 0 := by
  obtain ⟨r, hr⟩ := h
  rw [fullL_eq, List.append_assoc] at hr
  obtain ⟨h1, -, -⟩ := fullK_rest hs ps 0 (by omega) hr.symm
  obtain ⟨b', e, k1, k2, k3, k4, -⟩ := fullK_head hs _ _ rfl h1.symm
  injection e with e1 e2
  have : b = b' := by omega
  subst this
  exact ⟨k1, k4⟩
theorem full_prefix {hs : List Int} {ps : List (Int × Int)} {q : Int × Int} (h : ps ++ [q] <+: fullL hs) : ps <+: fullL hs := (List.prefix_append _ _).trans h
/-- Behind all of them there is none. -/
theorem full_none (hs : List Int) : nxF 0 (fullL hs) ≤ 65 ∧ ∀ i, nxF 0 (fullL hs) ≤ i → i < 65 → hs.getD i 0 = 0 := by
  obtain ⟨h1, -, h3⟩ := fullK_rest hs (rest := []) (fullL hs) 0 (by omega) (by rw [List.append_nil, fullL_eq])
  refine ⟨h3, fun i hi hi65 => ?_⟩
  unfold fullK at h1
  have h := List.filterMap_eq_nil_iff.1 h1.symm i (by rw [List.mem_range'_1]; omega)
  unfold bktG at h
  by_cases h0 : hs.getD i 0 = 0
  · exact h0
  · rw [if_neg h0] at h; cases h
theorem full_mem {hs : List Int} {p : Int × Int} (h : p ∈ fullL hs) : ∃ b : Nat, b < 65 ∧ p = ((b : Int), hs.getD b 0) ∧ hs.getD b 0 ≠ 0 := by
  unfold fullL at h
  obtain ⟨b, hb, e⟩ := List.mem_filterMap.1 h
  by_cases h0 : hs.getD b 0 = 0
  · rw [if_pos h0] at e; cases e
  · rw [if_neg h0] at e
    injection e with e
    exact ⟨b, List.mem_range.1 hb, e.symm, h0⟩
end Go.Proofs.Ytmafkknnekkcdaa
