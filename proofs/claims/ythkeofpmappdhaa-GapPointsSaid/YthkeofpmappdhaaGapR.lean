/- Lists of gaps; noonmarkref03's right, walked. -/
import Derived.Test.YthkeofpmappdhaaGapA
namespace Go.Proofs.Ythkeofpmappdhaa
open Go.RowKit

/-- The slice value reads as the list of gaps, below block B. -/
def Gaps (w : World) (B : Nat) (v : Value) (gs : List (Int × Int)) : Prop :=
  ∃ (A : Option Addr) (c : Nat), v = .slice A gs.length c ∧ gs.length ≤ c ∧
    (0 < gs.length → ∃ ad, A = some ad ∧ ad.block < B ∧ ∀ j (h : j < gs.length), w.cell? (ad.add (j * 2)) = some (.int .i64 gs[j].1) ∧ w.cell? (ad.add (j * 2 + 1)) = some (.int .i64 gs[j].2))
section
variable {w w' : World} {B B' : Nat} {v : Value} {gs : List (Int × Int)}
theorem Gaps.keep (h : Gaps w B v gs) (hk : ∀ p : Addr, p.block < B → w'.cell? p = w.cell? p) : Gaps w' B v gs := by
  obtain ⟨A, c, rfl, hc, hr⟩ := h
  refine ⟨A, c, rfl, hc, fun hn => ?_⟩
  obtain ⟨ad, e, hb, hcell⟩ := hr hn
  exact ⟨ad, e, hb, fun j hj => ⟨(hk _ (by rw [block_of_add]; exact hb)).trans (hcell j hj).1, (hk _ (by rw [block_of_add]; exact hb)).trans (hcell j hj).2⟩⟩
theorem Gaps.more (h : Gaps w B v gs) (hB : B ≤ B') : Gaps w B' v gs := by
  obtain ⟨A, c, rfl, hc, hr⟩ := h
  refine ⟨A, c, rfl, hc, fun hn => ?_⟩
  obtain ⟨ad, e, hb, hcell⟩ := hr hn
  exact ⟨ad, e, by omega, hcell⟩
theorem Gaps.below (h : Gaps w B v gs) (hb : Below B w w') : Gaps w' B v gs := h.keep fun _ hp => hb.cell hp
theorem Gaps.nil (w : World) (B : Nat) : Gaps w B (.slice none 0 0) [] := ⟨none, 0, rfl, Nat.le_refl _, fun h => absurd h (by simp)⟩
theorem Gaps.len (h : Gaps w B v gs) : ∃ A c, v = .slice A gs.length c := by obtain ⟨A, c, h, _⟩ := h; exact ⟨A, c, h⟩
end
theorem add_succ (a : Addr) (n : Nat) : a.add (n + 1) = ⟨(a.add n).block, (a.add n).off + 1, none⟩ := by
  unfold Addr.add
  split
  · omega
  · split
    · next h => subst h; rfl
    · rfl
theorem ret_bool {a b : Bool} (h : a = b) : Ending.returned (.bool a) = .returned (.bool b) := by rw [h]
/-- Are all of them gaps? -/
def allRight (gs : List (Int × Int)) : Bool := gs.all fun g => decide (g.1 ≤ g.2)
theorem allRight_not {gs : List (Int × Int)} {k : Nat} (hk : k < gs.length) (h : gs[k].2 < gs[k].1) : allRight gs = false := by
  unfold allRight
  rw [List.all_eq_false]
  exact ⟨gs[k], List.getElem_mem hk, by simp; omega⟩
theorem allRight_of {gs : List (Int × Int)} (h : ∀ j (hj : j < gs.length), gs[j].1 ≤ gs[j].2) : allRight gs = true := by
  unfold allRight
  rw [List.all_eq_true]
  intro g hg
  obtain ⟨j, hj, rfl⟩ := List.getElem_of_mem hg
  exact decide_eq_true (h j hj)

set_option maxRecDepth 100000 in
set_option maxHeartbeats 1000000 in
theorem rights_any (v : Value) (gs : List (Int × Int)) (w : World) (hv : Gaps w w.heap.size v gs) (hn : gs.length ≤ 1000000) :
    Calls Try.prog 38 #[v] w fun e w' => e = .returned (.bool (allRight gs)) ∧ Below w.heap.size w w' := by
  obtain ⟨A, c, rfl, hc, hr⟩ := hv
  have HR := Lib.hid hr
  clear hr
  go_enter Try.func38, Try.ntmps38
  go_wp2_with fail
  go_loopw [3] (fun i wr => ∃ k : Nat, k ≤ gs.length ∧ i = .int .i64 k ∧ Below w.heap.size w wr ∧ Hid (∀ j (hj : j < gs.length), j < k → gs[j].1 ≤ gs[j].2)) (fun i _ => gs.length - (intOf i).toNat)
  case atStart => exact ⟨0, Nat.zero_le _, rfl, Below.refl _ _, Lib.hid fun j _ hj => absurd hj (by omega)⟩
  case round =>
    obtain ⟨k, hk, rfl, hB, hall⟩ := hrel
    by_cases hlt : k < gs.length
    · obtain ⟨ad, rfl, hb, hcell⟩ := HR.out (by omega)
      rename_i wr _ _
      have c1 : _ = _ := (hB.cell (by rw [block_of_add]; exact hb)).trans (hcell k hlt).1
      have c2 : _ = _ := (hB.cell (by rw [block_of_add]; exact hb)).trans (hcell k hlt).2
      rw [add_succ] at c2
      have HN : Hid (gs[k].2 < gs[k].1 → allRight gs = false) := Lib.hid (allRight_not hlt)
      have CR := Lib.hid (rRight_any gs[k].1 gs[k].2)
      clear hcell hb
      by_cases hr : gs[k].2 < gs[k].1
      · have HE := Lib.hid (HN.out hr)
        have e1 : decide (gs[k].1 ≤ gs[k].2) = false := decide_eq_false (by omega)
        generalize gs[k].1 = a at *
        generalize gs[k].2 = b at *
        clear hr
        go_wp2_with fail
        refine (CR.out _).mono ?_; rintro e w1 ⟨rfl, h1⟩
        have B1 := ext_step hB h1
        go_wp2_with fail
        go_ret
        exact ⟨ret_bool HE.out.symm, B1⟩
      · have e1 : decide (gs[k].1 ≤ gs[k].2) = true := decide_eq_true (by omega)
        have hle : Hid (gs[k].1 ≤ gs[k].2) := Lib.hid (by omega)
        have hall' : Hid (∀ j (hj : j < gs.length), j < k + 1 → gs[j].1 ≤ gs[j].2) := Lib.hid fun j hj hjk => by
          by_cases e : j = k
          · subst e; exact hle.out
          · exact hall.out j hj (by omega)
        generalize gs[k].1 = a at *
        generalize gs[k].2 = b at *
        clear hr
        go_wp2_with fail
        refine (CR.out _).mono ?_; rintro e w1 ⟨rfl, h1⟩
        have B1 := ext_step hB h1
        go_wp2_with fail
        go_roundw
        case rel => exact ⟨k + 1, hlt, by go_num, B1, hall'⟩
        case measure => simp [intOf]; omega
    · have HE := Lib.hid (allRight_of fun j hj => hall.out j hj (by omega))
      go_wp2_with fail
      go_ret
      exact ⟨ret_bool HE.out.symm, hB⟩
end Go.Proofs.Ythkeofpmappdhaa
