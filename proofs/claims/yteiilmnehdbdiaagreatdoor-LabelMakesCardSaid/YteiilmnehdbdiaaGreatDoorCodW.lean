/- Lists of texts in memory; the bytes of lists. -/
import Derived.Test.YteiilmnehdbdiaaGreatDoorMem
import Derived.Test.YteiilmnehdbdiaaGreatDoorCodU
namespace Go.Proofs.YteiilmnehdbdiaaGreatDoor
open Go.RowKit

/-- The slice value reads as the list of texts, below block B. -/
def LstS (w : World) (B : Nat) (v : Value) (ss : List ByteArray) : Prop :=
  ∃ (A : Option Addr) (c : Nat), v = .slice A ss.length c ∧ ss.length ≤ c ∧
    (0 < ss.length → ∃ ad, A = some ad ∧ ad.block < B ∧ ∀ j (h : j < ss.length), w.cell? (ad.add j) = some (.string ss[j]))
section
variable {w w' : World} {B B' : Nat} {v : Value} {ss : List ByteArray}
theorem LstS.below (h : LstS w B v ss) (hb : Below B w w') : LstS w' B v ss := by
  obtain ⟨A, c, rfl, hc, hr⟩ := h
  refine ⟨A, c, rfl, hc, fun hn => ?_⟩
  obtain ⟨ad, e, hbk, hcell⟩ := hr hn
  exact ⟨ad, e, hbk, fun j hj => (hb.cell (by rw [block_of_add]; exact hbk)).trans (hcell j hj)⟩
theorem LstS.more (h : LstS w B v ss) (hB : B ≤ B') : LstS w B' v ss := by
  obtain ⟨A, c, rfl, hc, hr⟩ := h
  refine ⟨A, c, rfl, hc, fun hn => ?_⟩
  obtain ⟨ad, e, hb, hcell⟩ := hr hn
  exact ⟨ad, e, by omega, hcell⟩
theorem LstS.len (h : LstS w B v ss) : ∃ A c, v = .slice A ss.length c := by obtain ⟨A, c, h, _⟩ := h; exact ⟨A, c, h⟩
end
/-- The bytes of a list. -/
def uintsL (zs : List Int) : List Int := zs.flatMap fun z => lebL z.toNat
def intsL (zs : List Int) : List Int := zs.flatMap fun z => lebL (turnI z).toNat
def textsL (ss : List ByteArray) : List Int := ss.flatMap txtL
abbrev ptrV (g : Nat) : Value := .pointer (some ⟨g, 0, none⟩)
/-- A slice whose array, if it has one, lies at block L or above. -/
def Above (L : Nat) (v : Value) : Prop := ∀ A n c, v = .slice A n c → ∀ ad, A = some ad → L ≤ ad.block
theorem Above.less {L L' : Nat} {v : Value} (h : Above L v) (hL : L' ≤ L) : Above L' v := fun A n c e ad ea => Nat.le_trans hL (h A n c e ad ea)
theorem Above.cut {L : Nat} {A : Option Addr} {n c m : Nat} (h : Above L (.slice A n c)) (u : Value)
    (hu : (c = m ∧ u = .slice A (n - m) (c - m)) ∨ (c ≠ m ∧ ∃ ad, A = some ad ∧ u = .slice (some (ad.add m)) (n - m) (c - m))) : Above L u := by
  intro A' n' c' e ad ea
  rcases hu with ⟨-, rfl⟩ | ⟨-, ad', e2, rfl⟩
  · injection e with e1
    subst e1
    exact h _ _ _ rfl ad ea
  · injection e with e1
    subst e1
    injection ea with ea
    subst ea
    rw [block_of_add]
    exact h _ _ _ rfl ad' e2
theorem Above.own {t : TypeId} {k : IntKind} {w : World} {B : Nat} {v : Value} {zs : List Int} (h : Owned t k w B v zs) : Above B v := by
  intro A n c e ad ea
  subst e; subst ea
  rcases h.2 with ⟨h0, -⟩ | ⟨g, cap, cur, e, hg, _⟩
  · injection h0 with h0; cases h0
  · injection e with e
    injection e with e
    subst e
    exact hg
theorem Above.none_ (L : Nat) (n c : Nat) : Above L (.slice none n c) := fun A n' c' e ad ea => by
  injection e with e1
  subst e1
  cases ea
end Go.Proofs.YteiilmnehdbdiaaGreatDoor
