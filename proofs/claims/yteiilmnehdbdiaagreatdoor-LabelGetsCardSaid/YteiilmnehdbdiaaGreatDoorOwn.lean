/- Rows of numbers that the call itself made: one more number, a list more; how they stand when memory grows. -/
import Derived.Test.YteiilmnehdbdiaaGreatDoorAppend
import Derived.Test.YteiilmnehdbdiaaGreatDoorMem
namespace Go.Proofs.YteiilmnehdbdiaaGreatDoor
open Go.RowKit

section
variable {t : TypeId} {k : IntKind} {w wr w1 : World} {B B' L U : Nat} {v v' : Value} {xs ys : List Int} {z : Int}
theorem one_val (wr : World) (x : Value) (t : TypeId) : ∀ j u, [x][j]? = some u → (wr.alloc (.cells #[x] t)).cell? ((⟨wr.heap.size, 0, none⟩ : Addr).add j) = some u := by
  intro j u hj
  match j, hj with
  | 0, hj => simp at hj; subst hj; simp [Addr.add]
theorem Owned.push {o : Obj} (hown : Owned t k wr B v xs) (hsz : B ≤ wr.heap.size) (h' : w1.ownsRow B t 1 v' (xs.length + 1) (xs.map (Value.int k) ++ [.int k z])) (hg : (wr.alloc o).grownBy w1 v.ownBlock) :
    Owned t k w1 B v' (xs ++ [z]) ∧ Below B wr w1 := by
  constructor
  · unfold Owned; rw [List.map_append, List.length_append]; exact h'
  · exact ((Below.refl B wr).alloc hsz o).grown hg (by simp; omega) (fun k hk => (World.ownsRow.lt hown k hk).1)
theorem Owned.block_ (h : Owned t k wr B v xs) (hb : ∀ i, B ≤ i → i < wr.heap.size → w1.heap[i]? = wr.heap[i]?) : Owned t k w1 B v xs := by
  refine ⟨h.1, ?_⟩
  rcases h.2 with h0 | ⟨g, cap, cur, rfl, hg, hh, h2⟩
  · exact .inl h0
  · have hl := World.ownsRow.lt h g rfl
    exact .inr ⟨g, cap, cur, rfl, hg, (hb g hl.1 hl.2).trans hh, h2⟩
theorem Owned.keep (h : Owned t k wr B v xs) (hb : Below wr.heap.size wr w1) : Owned t k w1 B v xs := h.block_ fun i _ hi => hb.block i hi
theorem Owned.drew (h : Owned t k wr B v xs) : Owned t k wr.drew B v xs := h.block_ fun _ _ _ => rfl
theorem Owned.grow_ (h : Owned t k wr B v xs) (o : Obj) : Owned t k (wr.alloc o) B v xs := h.keep (below_new wr o)
theorem Owned.aside (h : Owned t k wr B v xs) (hb : Aside L U wr w1) (hU : U ≤ B) : Owned t k w1 B v xs := h.block_ fun i hi hl => hb.block i hl (Or.inr (Nat.le_trans hU hi))
theorem Owned.less (h : Owned t k wr B v xs) (hB : B' ≤ B) : Owned t k wr B' v xs := by
  refine ⟨h.1, ?_⟩
  rcases h.2 with h0 | ⟨g, cap, cur, rfl, hg, hh, h2⟩
  · exact .inl h0
  · exact .inr ⟨g, cap, cur, rfl, Nat.le_trans hB hg, hh, h2⟩
theorem Owned.join (hown : Owned t k wr B v xs) (hsz : B ≤ wr.heap.size) (h' : w1.ownsRow B t 1 v' (xs.length + ys.length) (xs.map (Value.int k) ++ ys.map (Value.int k))) (hg : wr.grownBy w1 v.ownBlock) :
    Owned t k w1 B v' (xs ++ ys) ∧ Below B wr w1 :=
  ⟨by unfold Owned; rw [List.map_append, List.length_append]; exact h', (Below.refl B wr).grown hg hsz (fun k hk => (World.ownsRow.lt hown k hk).1)⟩
theorem Owned.val (h : Owned t k wr B v xs) : ∃ A c, v = .slice A xs.length c := h.lst.len
end
/-- The rest of a list behind its first m, as a slice. -/
theorem Lst.tail_ {w : World} {B : Nat} {k : IntKind} {A : Option Addr} {n c : Nat} {zs : List Int} (h : Lst w B k (.slice A n c) zs) {m : Nat} (hm : m ≤ zs.length) (u : Value)
    (hu : (c = m ∧ u = .slice A (n - m) (c - m)) ∨ (c ≠ m ∧ ∃ ad, A = some ad ∧ u = .slice (some (ad.add m)) (n - m) (c - m))) : Lst w B k u (zs.drop m) := by
  obtain ⟨A', c', e, hc, hr⟩ := h
  injection e with e1 e2 e3
  subst e1; subst e3; subst e2
  rcases hu with ⟨h1, rfl⟩ | ⟨h1, ad, rfl, rfl⟩
  · refine ⟨A, c - m, by rw [List.length_drop], by rw [List.length_drop]; omega, fun hn => ?_⟩
    rw [List.length_drop] at hn; omega
  · refine ⟨_, c - m, by rw [List.length_drop], by rw [List.length_drop]; omega, fun hn => ?_⟩
    rw [List.length_drop] at hn
    obtain ⟨ad', e, hb, hcell⟩ := hr (by omega)
    injection e with e
    subst e
    refine ⟨_, rfl, by rw [block_of_add]; exact hb, fun j hj => ?_⟩
    rw [List.length_drop] at hj
    have e : (ad.add m).add j = ad.add (m + j) := by
      unfold Addr.add
      by_cases h1 : m = 0 <;> by_cases h2 : j = 0 <;> simp [h1, h2, Nat.add_assoc]
    rw [e, hcell (m + j) (by omega), List.getElem_drop]
end Go.Proofs.YteiilmnehdbdiaaGreatDoor
