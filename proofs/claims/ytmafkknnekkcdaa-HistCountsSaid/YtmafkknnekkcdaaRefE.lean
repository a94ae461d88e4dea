/- A whole number as a long, walked. -/
import Derived.Test.YtmafkknnekkcdaaRefD
namespace Go.Proofs.Ytmafkknnekkcdaa
open Go.RowKit

/-- What the highest limbs are worth behind some rounds. -/
structure Horner (m : Int) (f : Nat → Int) (k : Nat) (v : Int) : Prop where
  v0 : 0 ≤ v
  eq : v * 65536 ^ k + sumD f k = m
theorem Horner.step {m : Int} {f : Nat → Int} {k : Nat} {v : Int} (h : Horner m f (k + 1) v) (h0 : 0 ≤ f k) : Horner m f k (v * 65536 + f k) := by
  obtain ⟨v0, eq⟩ := h
  refine ⟨by omega, ?_⟩
  rw [sumD, pow_succ'] at eq
  rw [Int.add_mul, Int.mul_assoc]; omega
theorem Horner.le {m : Int} {f : Nat → Int} {k : Nat} {v : Int} (h : Horner m f k v) (hf : ∀ j, 0 ≤ f j ∧ f j ≤ 65535) : v ≤ m := by
  obtain ⟨v0, eq⟩ := h
  have := (sumD_bd hf k).1
  have p := pow_pos k
  have : v * 1 ≤ v * 65536 ^ k := Int.mul_le_mul_of_nonneg_left (by omega) v0
  omega

/-- What a number is as a long: itself, if it fits. -/
def AsLong (x : Int) (w : World) (e : Ending) (w' : World) : Prop := ∃ lv : Int, e = .returned (.tuple #[.int .i64 lv, .bool (decide (Fits x))]) ∧ (Fits x → lv = x) ∧ Below w.heap.size w w'
theorem ret_long {x lv : Int} {b : Bool} {w w' : World} (hb : b = decide (Fits x)) (hv : Fits x → lv = x) (hw : Below w.heap.size w w') : AsLong x w (.returned (.tuple #[.int .i64 lv, .bool b])) w' := ⟨lv, by rw [hb], hv, hw⟩

set_option maxRecDepth 100000 in
set_option maxHeartbeats 1000000 in
theorem long_any (r : Value) (x : Int) (w : World) (L : Nat) (h : NumV w r x) (hx : mag x < 65536 ^ L) :
    Calls Try.prog 39 #[r] w (AsLong x w) := by
  obtain ⟨s, A, n, c, rfl, hs, hn⟩ := h.form
  have hb := below_new w (.cells #[.bool s, .slice A n c] 50)
  obtain ⟨xs, hr, hN, hv⟩ := hn.below hb
  have hlen := hN.len hr.2 (by rw [hv]; exact hx)
  obtain ⟨A', c', e, hc, hcell⟩ := hr.1
  injection e with e1 e2 e3
  subst e1; subst e2; subst e3
  have D := Lib.hid hr.2
  have HN := Lib.hid hN
  have k0 : (w.alloc (.cells #[.bool s, .slice A xs.length c] 50)).cell? ⟨w.heap.size, 0, none⟩ = some (.bool s) := World.cell?_alloc_new (w := w) _ _ 0
  have k1 : (w.alloc (.cells #[.bool s, .slice A xs.length c] 50)).cell? ⟨w.heap.size, 1, none⟩ = some (.slice A xs.length c) := World.cell?_alloc_new (w := w) _ _ 1
  have HC := Lib.hid hcell
  have HV := Lib.hid hv
  clear h hn hr hN hcell hv
  by_cases h4 : 4 < xs.length
  · have hbig : ¬ Fits x := by
      have := HN.out.low D.out (by omega)
      rw [HV.out] at this
      have p := pow_le (show 4 ≤ xs.length - 1 by omega)
      rw [pow4] at p
      unfold Fits; unfold mag at this; split at this <;> omega
    go_enter Try.func39, Try.ntmps39
    go_wp2_with fail
    go_ret2
    exact ret_long (decide_eq_false hbig).symm (fun k => absurd k hbig) hb
  · have hm : mag x < 18446744073709551616 := by
      have := D.out.bd.2
      rw [HV.out] at this
      have p := pow_le (show xs.length ≤ 4 by omega)
      rw [pow4] at p
      omega
    go_enter Try.func39, Try.ntmps39
    go_wp2_with fail
    go_loop [4, 5] (fun v i => ∃ (k : Nat) (v0 : Int), k ≤ xs.length ∧ i = .int .i64 ((k : Int) - 1) ∧ v = .int .u64 v0 ∧ Horner (mag x) (dig xs) k v0) (fun _ i => (intOf i + 1).toNat)
    case atStart => exact ⟨xs.length, 0, Nat.le_refl _, rfl, rfl, ⟨Int.le_refl _, by rw [val_more (Nat.le_refl _), HV.out]; omega⟩⟩
    case round =>
      obtain ⟨k, v0, hk, rfl, rfl, hh⟩ := hrel
      by_cases h0 : k = 0
      · subst h0
        have hvx : v0 = mag x := by have := hh.eq; simp [sumD] at this; exact this
        have hvm := Lib.hid hvx
        clear hvx hh HC HN HV D k0 k1
        have ez : ((0 : Nat) : Int) - 1 = -1 := rfl
        rw [ez]
        have v1 : 0 ≤ v0 := by have := hvm.out; unfold mag at this; split at this <;> omega
        have v2 : v0 ≤ 18446744073709551615 := by have := hvm.out; omega
        cases s
        · have hx0 : ¬ x < 0 := by have := hs.out; simpa using this
          have hvx : v0 = x := by rw [hvm.out, mag_pos hx0]
          have HX := Lib.hid hvx
          clear hvx hs hvm hx hm hx0
          by_cases hf : v0 < 9223372036854775808
          · go_wp2_with fail
            go_ret2
            exact ret_long (decide_eq_true (by have := HX.out; unfold Fits; omega)).symm (fun _ => HX.out) hb
          · go_wp2_with fail
            go_ret2
            exact ret_long (decide_eq_false (by have := HX.out; unfold Fits; omega)).symm (fun k => by have := HX.out; unfold Fits at k; omega) hb
        · have hx0 : x < 0 := by have := hs.out; simpa using this
          have hvx : v0 = -x := by rw [hvm.out, mag_neg hx0]
          have v3 : 1 ≤ v0 := by omega
          have HX := Lib.hid hvx
          clear hvx hs hvm hx hm hx0
          by_cases hf : 9223372036854775808 < v0
          · go_wp2_with fail
            go_ret2
            exact ret_long (decide_eq_false (by have := HX.out; unfold Fits; omega)).symm (fun k => by have := HX.out; unfold Fits at k; omega) hb
          · go_wp2_with fail
            go_ret2
            exact ret_long (decide_eq_true (by have := HX.out; unfold Fits; omega)).symm (fun _ => by have := HX.out; omega) hb
      · obtain ⟨j, rfl⟩ : ∃ j, k = j + 1 := ⟨k - 1, by omega⟩
        obtain ⟨ad, rfl, hb2, hcj⟩ := HC.out (by omega)
        have hck := hcj j (by omega)
        rw [← dig_at (show j < xs.length by omega)] at hck
        have hd := D.out.at_ j
        have hst := hh.step hd.1
        have v1 := hh.v0
        have v2 := hst.le D.out.at_
        have HH := Lib.hid hst
        clear hst hh hcj hb2
        have ej : ((j + 1 : Nat) : Int) - 1 = j := by omega
        rw [ej]
        generalize dig xs j = d at *
        generalize mag x = m at *
        go_wp2_with fail
        go_round
        case rel => exact ⟨j, _, by omega, by go_num, rfl, HH.out⟩
        case measure => simp [intOf]
end Go.Proofs.Ytmafkknnekkcdaa
