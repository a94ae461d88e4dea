/- CrcBack, walked. -/
import Derived.Test.YtckbkbfnddhpnaaCrcV
import Derived.Test.YtckbkbfnddhpnaaCopyBytes
import Derived.Test.YtckbkbfnddhpnaaSameBytes
namespace Go.Proofs.Ytckbkbfnddhpnaa
open Go.RowKit

/-- Sealed k times. -/
def sealK : Nat → List Int → List Int
  | 0, bs => bs
  | k + 1, bs => sealI (sealK k bs)
theorem sealK_len : ∀ (k : Nat) (bs : List Int), (sealK k bs).length = bs.length + 4 * k
  | 0, _ => rfl
  | k + 1, bs => by rw [sealK, sealI_len, sealK_len k bs]; omega
theorem sealK_byte {bs : List Int} (h : IsByte bs) : ∀ k, IsByte (sealK k bs)
  | 0 => h
  | k + 1 => sealI_byte (sealK_byte h k)
/-- One list of bytes, written out as a slice of slices. -/
theorem lit_one (W : World) (t : TypeId) (u : Value) (bs : List Int) (h : Lst W W.heap.size .u8 u bs) : LstL (W.alloc (.cells #[u] t)) (W.alloc (.cells #[u] t)).heap.size (.slice (some ⟨W.heap.size, 0, none⟩) 1 1) [bs] :=
  LstL.lits W t [u] [bs] rfl (fun j h1 h2 => by
    match j, h1, h2 with
    | 0, _, _ => exact h) _ rfl _ _ (Lib.hid rfl) rfl

set_option maxRecDepth 100000 in
set_option maxHeartbeats 4000000 in
theorem crcBack_any (G : CrcC) (v0 : Value) (bs : List Int) (m : Int) (w : World) (L0 : Lst w w.heap.size .u8 v0 bs) (F0 : IsByte bs) (_hm : Fits m) :
    Calls Try.prog 4 #[v0, .int .i64 m] w fun e w' => e = .returned (.bool true) ∧ Below w.heap.size w w' := by
  obtain ⟨A0, c0, rfl⟩ := L0.len
  have C0 := Lib.hid (alive7_any G w)
  by_cases hlen : 2000 < bs.length
  · have h1 : (2000 : Int) < (bs.length : Int) := by omega
    clear G L0 F0
    go_enter Try.func4, Try.ntmps4
    go_wp2_with fail
    refine (C0.out).mono ?_; rintro e w1 ⟨rfl, hB⟩
    go_wp2_with fail
    go_ret
    exact ⟨rfl, hB⟩
  have h1 : ¬ (2000 : Int) < (bs.length : Int) := by omega
  by_cases hm0 : m < 0
  · clear G L0 F0
    go_enter Try.func4, Try.ntmps4
    go_wp2_with fail
    refine (C0.out).mono ?_; rintro e w1 ⟨rfl, hB⟩
    go_wp2_with fail
    go_ret
    exact ⟨rfl, hB⟩
  by_cases hm1 : 10 < m
  · clear G L0 F0
    go_enter Try.func4, Try.ntmps4
    go_wp2_with fail
    refine (C0.out).mono ?_; rintro e w1 ⟨rfl, hB⟩
    go_wp2_with fail
    go_ret
    exact ⟨rfl, hB⟩
  obtain ⟨T, rfl⟩ := Int.eq_ofNat_of_zero_le (by omega : 0 ≤ m)
  have hT : T ≤ 10 := by omega
  have CC := Lib.hid fun W (h : Below w.heap.size w W) => copyBytes_any _ bs W ((L0.below h).more h.size) (by omega)
  have CS : Hid (∀ W u k, k ≤ T → LstL W W.heap.size u [sealK k bs] → Calls Try.prog 15 #[u] W (Copied 5 .u8 W (sealK (k + 1) bs))) := Lib.hid fun W u k hk h => by
    have e : [sealK k bs].flatten = sealK k bs := by simp
    have := G.seal_ u _ W h (by intro p hp; simp only [List.mem_cons, List.not_mem_nil, or_false] at hp; subst hp; exact sealK_byte F0 k) (by simp) (by rw [e, sealK_len]; omega)
    rwa [e] at this
  have CO := Lib.hid fun W u k (hk : k ≤ T) (h : Lst W W.heap.size .u8 u (sealK k bs)) => G.open_ u _ W h (sealK_byte F0 k) (by rw [sealK_len]; omega)
  have CE := Lib.hid fun W u (hB : Below w.heap.size w W) (h : Lst W W.heap.size .u8 u bs) => sameBytes_any u _ bs W h ((L0.below hB).more hB.size) (by omega)
  clear G L0 F0
  go_enter Try.func4, Try.ntmps4
  go_wp2_with fail
  refine (C0.out).mono ?_; rintro e w1 ⟨rfl, hB⟩
  go_wp2_with fail
  refine (CC.out _ hB).mono ?_; rintro e w2 ⟨s, rfl, hO, h⟩
  have hB2 := ext_step hB h
  have hL := hO.lst
  clear CC C0 hB h hO
  go_wp2_with fail
  go_loopw [5, 6] (fun s i wr => ∃ k : Nat, k ≤ T ∧ i = .int .i64 k ∧ Lst wr wr.heap.size .u8 s (sealK k bs) ∧ Below w.heap.size w wr) (fun _ i _ => T - (intOf i).toNat)
  case atStart => exact ⟨0, Nat.zero_le _, rfl, hL, hB2⟩
  case round =>
    clear hL hB2
    obtain ⟨k, hk, rfl, hL, hB2⟩ := hrel
    by_cases hlt : k < T
    · have j1 : (k : Int) < (T : Int) := by omega
      obtain ⟨As, cs, rfl⟩ := hL.len
      have hP := lit_one wr 23 _ _ hL
      go_wp2_with fail
      refine (CS.out _ _ k hk hP).mono ?_; rintro e w3 ⟨u, rfl, hO, h⟩
      have hB3 := ext_step (ext_alloc hB2 _) h
      go_wp2_with fail
      go_roundw
      case rel => exact ⟨k + 1, hlt, by go_num, hO.lst, hB3⟩
      case measure => simp [intOf]; omega
    · obtain rfl : T = k := by omega
      go_wp2_with fail
      go_loopw [5, 7] (fun s i wr => ∃ k : Nat, k ≤ T ∧ i = .int .i64 k ∧ Lst wr wr.heap.size .u8 s (sealK (T - k) bs) ∧ Below w.heap.size w wr) (fun _ i _ => T - (intOf i).toNat)
      case atStart => exact ⟨0, Nat.zero_le _, rfl, hL, hB2⟩
      case round =>
        clear hL hB2
        obtain ⟨k, hk, rfl, hL, hB2⟩ := hrel
        by_cases hlt : k < T
        · have j1 : (k : Int) < (T : Int) := by omega
          have CO1 := Lib.hid (CO.out _ _ (T - k) (by omega) hL)
          rw [show T - k = T - (k + 1) + 1 by omega, sealK, openI_seal] at CO1
          go_wp2_with fail
          refine (CO1.out).mono ?_; rintro e w3 ⟨u, rfl, hL3, h⟩
          have hB3 := ext_step hB2 h
          go_wp2_with fail
          go_roundw
          case rel => exact ⟨k + 1, hlt, by go_num, hL3, hB3⟩
          case measure => simp [intOf]; omega
        · obtain rfl : T = k := by omega
          rw [Nat.sub_self, sealK] at hL
          go_wp2_with fail
          refine (CE.out _ _ hB2 hL).mono ?_; rintro e w3 ⟨rfl, n, rfl⟩
          go_wp2_with fail
          go_ret
          exact ⟨rfl, below_drewN hB2 n⟩
end Go.Proofs.Ytckbkbfnddhpnaa
