/- What the sum of a list answers: the walk over two words with a carry. -/
import Derived.Test.YtncankjgmchckaaSafe
import Derived.Test.YtncankjgmchckaaMem
import Derived.Laws.Externs
namespace Go.Proofs.Ytncankjgmchckaa
open Go.RowKit

theorem add64_eq (x y c : Int) (hx : 0 ≤ x) (hy : 0 ≤ y) (hc0 : 0 ≤ c) (hc : c ≤ 1) (w : World) :
    (callFunc 30 #[.int .u64 x, .int .u64 y, .int .u64 c]).run Try.prog w = .ok (.value (.tuple #[.int .u64 ((x + y + c) % 18446744073709551616), .int .u64 ((x + y + c) / 18446744073709551616)])) w := by
  rw [run_callFunc_extern Try.func30 (by kernel_rfl) (by kernel_rfl) (by kernel_rfl) (e := add64Entry) (by kernel_rfl), run_add64 x y c hx hy hc0 hc]
  rfl

/-- The sum of the first k. -/
def psum (zs : List Int) (k : Nat) : Int := (zs.take k).sum
theorem psum_zero (zs : List Int) : psum zs 0 = 0 := by simp [psum]
theorem psum_succ (zs : List Int) (k : Nat) (h : k < zs.length) : psum zs (k + 1) = psum zs k + zs[k] := by
  unfold psum
  rw [List.take_succ_eq_append_getElem h, List.sum_append]; simp
theorem psum_all (zs : List Int) : psum zs zs.length = zs.sum := by simp [psum]
theorem psum_bd (zs : List Int) (hf : ∀ z ∈ zs, Fits z) : ∀ k : Nat, k ≤ zs.length → -(9223372036854775808 * (k : Int)) ≤ psum zs k ∧ psum zs k ≤ 9223372036854775808 * (k : Int)
  | 0, _ => by simp [psum]
  | k + 1, h => by
    have ih := psum_bd zs hf k (by omega)
    have := hf zs[k] (List.getElem_mem _)
    rw [psum_succ zs k (by omega)]
    unfold Fits at this
    omega

/-- The two words of a sum. -/
structure Words (S h l : Int) : Prop where
  hi : h = S / 18446744073709551616 % 18446744073709551616
  lo : l = S % 18446744073709551616
theorem Words.step {S h l v : Int} (W : Words S h l) (hv : Fits v) :
    Words (S + v) ((h + IntKind.u64.wrap (v / 9223372036854775808) + (l + IntKind.u64.wrap v) / 18446744073709551616) % 18446744073709551616) ((l + IntKind.u64.wrap v) % 18446744073709551616) := by
  obtain ⟨hi, lo⟩ := W
  unfold Fits at hv
  rw [IntKind.wrap_u64, IntKind.wrap_u64]
  have hS : S = 18446744073709551616 * (S / 18446744073709551616) + l := by omega
  generalize S / 18446744073709551616 = A at *
  have hl : 0 ≤ l ∧ l < 18446744073709551616 := by omega
  clear lo
  subst hS
  constructor
  · have e : (18446744073709551616 * A + l + v) / 18446744073709551616 = A + (l + v) / 18446744073709551616 := by omega
    rw [e]
    by_cases h0 : v < 0
    · have e1 : v / 9223372036854775808 = -1 := by omega
      have e2 : v % 18446744073709551616 = v + 18446744073709551616 := by omega
      rw [e1, e2]
      have e3 : (l + (v + 18446744073709551616)) / 18446744073709551616 = (l + v) / 18446744073709551616 + 1 := by omega
      rw [e3]
      generalize (l + v) / 18446744073709551616 = D
      omega
    · have e1 : v / 9223372036854775808 = 0 := by omega
      have e2 : v % 18446744073709551616 = v := by omega
      rw [e1, e2]
      generalize (l + v) / 18446744073709551616 = D
      omega
  · omega
theorem wrap64_low {x : Int} (h0 : 0 ≤ x) (h1 : x < 9223372036854775808) : wrap64 x = x := by unfold wrap64; omega
theorem wrap64_high {x : Int} (h0 : 9223372036854775808 ≤ x) (h1 : x < 18446744073709551616) : wrap64 x = x - 18446744073709551616 := by unfold wrap64; omega
theorem Words.fits {S h l : Int} (W : Words S h l) (h1 : -170141183460469231731687303715884105728 ≤ S) (h2 : S ≤ 170141183460469231731687303715884105727) :
    (wrap64 h = wrap64 l / 9223372036854775808 ↔ Fits S) ∧ (Fits S → wrap64 l = S) := by
  obtain ⟨hi, lo⟩ := W
  have hS : S = 18446744073709551616 * (S / 18446744073709551616) + l := by omega
  generalize S / 18446744073709551616 = A at *
  have hl : 0 ≤ l ∧ l < 18446744073709551616 := by omega
  have hh : 0 ≤ h ∧ h < 18446744073709551616 := by omega
  clear lo
  subst hS
  unfold Fits
  rcases Int.lt_or_le h 9223372036854775808 with a | a
  · rw [wrap64_low hh.1 a]
    rcases Int.lt_or_le l 9223372036854775808 with b | b
    · rw [wrap64_low hl.1 b, show l / 9223372036854775808 = 0 by omega]
      exact ⟨⟨fun k => by omega, fun k => by omega⟩, fun k => by omega⟩
    · rw [wrap64_high b hl.2, show (l - 18446744073709551616) / 9223372036854775808 = -1 by omega]
      exact ⟨⟨fun k => by omega, fun k => by omega⟩, fun k => by omega⟩
  · rw [wrap64_high a hh.2]
    rcases Int.lt_or_le l 9223372036854775808 with b | b
    · rw [wrap64_low hl.1 b, show l / 9223372036854775808 = 0 by omega]
      exact ⟨⟨fun k => by omega, fun k => by omega⟩, fun k => by omega⟩
    · rw [wrap64_high b hl.2, show (l - 18446744073709551616) / 9223372036854775808 = -1 by omega]
      exact ⟨⟨fun k => by omega, fun k => by omega⟩, fun k => by omega⟩

set_option maxHeartbeats 400000 in
theorem sum_any (v : Value) (zs : List Int) (w : World) (hl : Lst w w.heap.size .i64 v zs) (hf : ∀ z ∈ zs, Fits z) (hn : zs.length ≤ 9223372036854775807) :
    Calls Try.prog 16 #[v] w fun e w' => e = .returned (.tuple #[.int .i64 (toldV zs.sum), .int .i64 (toldE zs.sum)]) ∧ w = w' := by
  obtain ⟨A, c, rfl, hc, hr⟩ := hl
  have HF := Lib.hid hf
  have HR := Lib.hid hr
  clear hf hr
  go_enter Try.func16, Try.ntmps16
  go_wp2_with fail
  go_loop [4, 5, 12] (fun h l i => ∃ (k : Nat) (H L : Int), k ≤ zs.length ∧ Words (psum zs k) H L ∧ h = .int .u64 H ∧ l = .int .u64 L ∧ i = .int .i64 k) (fun _ _ i => zs.length - (intOf i).toNat)
  case atStart => exact ⟨0, 0, 0, Nat.zero_le _, by rw [psum_zero]; exact ⟨rfl, rfl⟩, rfl, rfl, rfl⟩
  case round =>
    obtain ⟨k, H, L, hk, W, rfl, rfl, rfl⟩ := hrel
    have h0 : 0 ≤ H := by have := W.hi; omega
    have l0 : 0 ≤ L := by have := W.lo; omega
    by_cases hlt : k < zs.length
    · obtain ⟨ad, rfl, hb, hcell⟩ := HR.out (by omega)
      have hck := hcell k hlt
      have hz := HF.out _ (List.getElem_mem hlt)
      have hW' := W.step hz
      rw [← psum_succ zs k hlt] at hW'
      have c0 := IntKind.wrap_u64 zs[k]
      have c1 := IntKind.wrap_u64 (zs[k] / 9223372036854775808)
      have w0 : 0 ≤ IntKind.u64.wrap zs[k] := by omega
      have w1 : 0 ≤ IntKind.u64.wrap (zs[k] / 9223372036854775808) := by omega
      have l1 : L < 18446744073709551616 := by have := W.lo; omega
      have a1 : ∀ W : World, (callFunc 30 #[.int .u64 L, .int .u64 (IntKind.u64.wrap zs[k]), .int .u64 0]).run Try.prog W =
          .ok (.value (.tuple #[.int .u64 ((L + IntKind.u64.wrap zs[k]) % 18446744073709551616), .int .u64 ((L + IntKind.u64.wrap zs[k]) / 18446744073709551616)])) W := fun W => by
        have := add64_eq L (IntKind.u64.wrap zs[k]) 0 l0 w0 (Int.le_refl 0) (by omega) W
        rwa [Int.add_zero] at this
      have a2 : ∀ W : World, (callFunc 30 #[.int .u64 H, .int .u64 (IntKind.u64.wrap (zs[k] / 9223372036854775808)), .int .u64 ((L + IntKind.u64.wrap zs[k]) / 18446744073709551616)]).run Try.prog W = _ := fun W =>
        add64_eq H (IntKind.u64.wrap (zs[k] / 9223372036854775808)) ((L + IntKind.u64.wrap zs[k]) / 18446744073709551616) h0 w1 (by omega) (by omega) W
      clear hcell HR HF c0 c1
      have HW := Lib.hid hW'
      clear hW' W
      go_wp2_with fail
      go_round
      case rel => exact ⟨k + 1, _, _, hlt, HW.out, rfl, rfl, by go_num⟩
      case measure => simp [intOf]; omega
    · obtain rfl : k = zs.length := by omega
      rw [psum_all] at W
      obtain ⟨b0, b1⟩ := psum_bd zs HF.out zs.length (Nat.le_refl _)
      rw [psum_all] at b0 b1
      obtain ⟨hw, hs⟩ := W.fits (by omega) (by omega)
      clear b0 b1 W HR HF
      by_cases hF : Fits zs.sum
      · have e1 : (wrap64 H != wrap64 L / 9223372036854775808) = false := by
          have := hw.2 hF
          rw [this]; simp
        have e2 := Lib.hid ((hs hF).trans (toldV_fit hF).symm)
        have e3 := Lib.hid (toldE_fit hF)
        clear hw hs hF
        go_wp2_with fail
        go_ret2
        exact ⟨ret_two e2.out e3.out.symm, rfl⟩
      · have e1 : (wrap64 H != wrap64 L / 9223372036854775808) = true := by
          rw [bne_iff_ne]; exact fun k => hF (hw.1 k)
        have e2 := Lib.hid (toldV_over hF)
        have e3 := Lib.hid (toldE_over hF)
        clear hw hs hF
        go_wp2_with fail
        go_ret2
        exact ⟨ret_two e2.out.symm e3.out.symm, rfl⟩
end Go.Proofs.Ytncankjgmchckaa
