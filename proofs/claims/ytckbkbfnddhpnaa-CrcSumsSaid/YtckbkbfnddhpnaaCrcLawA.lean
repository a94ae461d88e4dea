/- CrcSums, walked. -/
import Derived.Test.YtckbkbfnddhpnaaCrcV
import Derived.Test.YtckbkbfnddhpnaaCopyBytes
import Derived.Test.YtckbkbfnddhpnaaSameBytes
namespace Go.Proofs.Ytckbkbfnddhpnaa
open Go.RowKit

theorem openI_byte {bs : List Int} (h : IsByte bs) : IsByte (openI bs).1 ∧ (openI bs).1.length ≤ bs.length := by
  unfold openI
  split
  · exact ⟨fun c hc => absurd hc (by simp), by simp⟩
  · split
    · exact ⟨fun c hc => h c (List.mem_of_mem_take hc), by simp⟩
    · exact ⟨fun c hc => absurd hc (by simp), by simp⟩

set_option maxRecDepth 100000 in
set_option maxHeartbeats 4000000 in
theorem crcSums_any (G : CrcC) (v0 v1 : Value) (ps : List (List Int)) (bs : List Int) (w : World) (L0 : LstL w w.heap.size v0 ps) (F0 : AllByte ps) (B0 : ∀ p ∈ ps, p.length ≤ 140737488355328) (L1 : Lst w w.heap.size .u8 v1 bs) (F1 : IsByte bs) :
    Calls Try.prog 3 #[v0, v1] w fun e w' => e = .returned (.bool true) ∧ Below w.heap.size w w' := by
  obtain ⟨A0, c0, rfl⟩ := L0.len
  obtain ⟨A1, c1, rfl⟩ := L1.len
  have C0 := Lib.hid (alive7_any G w)
  have CG := Lib.hid fun W (h : Below w.heap.size w W) => great_any _ ps W ((L0.below h).more h.size) B0
  by_cases hgr : greatB ps = true
  · rw [hgr] at CG
    clear G L0 L1 F0 F1 B0
    go_enter Try.func3, Try.ntmps3
    go_wp2_with fail
    refine (C0.out).mono ?_; rintro e w1 ⟨rfl, hB⟩
    go_wp2_with fail
    refine (CG.out _ hB).mono ?_; rintro e w2 ⟨rfl, rfl⟩
    go_wp2_with fail
    go_ret
    exact ⟨rfl, hB⟩
  have hgr2 : greatB ps = false := by simpa using hgr
  rw [hgr2] at CG
  by_cases hlen : 3000 < bs.length
  · have h1 : (3000 : Int) < (bs.length : Int) := by omega
    clear G L0 L1 F0 F1 B0
    go_enter Try.func3, Try.ntmps3
    go_wp2_with fail
    refine (C0.out).mono ?_; rintro e w1 ⟨rfl, hB⟩
    go_wp2_with fail
    refine (CG.out _ hB).mono ?_; rintro e w2 ⟨rfl, rfl⟩
    go_wp2_with fail
    go_ret
    exact ⟨rfl, hB⟩
  have h1 : ¬ (3000 : Int) < (bs.length : Int) := by omega
  have hps : ps.length ≤ 100 ∧ ps.flatten.length ≤ 3000 := by
    have := of_decide_eq_false hgr2
    omega
  have hn : bs.length ≤ 1000000 := by omega
  have CJ := Lib.hid fun W (h : Below w.heap.size w W) => join_any _ ps W ((L0.below h).more h.size) (by omega) (by omega)
  have CC := Lib.hid fun W (h : Below w.heap.size w W) => copyBytes_any _ bs W ((L1.below h).more h.size) hn
  have CO := Lib.hid fun W u (h : Lst W W.heap.size .u8 u bs) => G.open_ u _ W h F1 hn
  have CR := Lib.hid fun W (h : Below w.heap.size w W) => rCrcOpen_any _ bs W ((L1.below h).more h.size) F1 hn
  have CS := Lib.hid fun W (h : Below w.heap.size w W) => G.sum _ ps W ((L0.below h).more h.size) F0 (by omega) (by omega)
  have CSR := Lib.hid fun W u (h : Lst W W.heap.size .u8 u ps.flatten) => rCrcSum_any u _ W h (flat_byte F0) (by omega)
  have CL := Lib.hid fun W (h : Below w.heap.size w W) => G.seal_ _ ps W ((L0.below h).more h.size) F0 (by omega) (by omega)
  have CLR := Lib.hid fun W u (h : Lst W W.heap.size .u8 u ps.flatten) => rCrcSeal_any u _ W h (flat_byte F0) (by omega)
  have CE1 := Lib.hid fun W u v (hu : Lst W W.heap.size .u8 u (sealI ps.flatten)) (hv : Lst W W.heap.size .u8 v (sealI ps.flatten)) => sameBytes_any u v _ W hu hv (by rw [sealI_len]; omega)
  have CE2 := Lib.hid fun W u v (hu : Lst W W.heap.size .u8 u (openI bs).1) (hv : Lst W W.heap.size .u8 v (openI bs).1) => sameBytes_any u v _ W hu hv (by have := (openI_byte F1).2; omega)
  have CE3 := Lib.hid fun W u (h : Below w.heap.size w W) (hu : Lst W W.heap.size .u8 u bs) => sameBytes_any u _ bs W hu ((L1.below h).more h.size) hn
  clear G L0 L1 F0 F1 B0 hgr hgr2
  generalize (openI bs).1 = cs at *
  generalize (openI bs).2 = en at *
  generalize sealI ps.flatten = ss at *
  generalize crcI ps.flatten = sm at *
  go_enter Try.func3, Try.ntmps3
  go_wp2_with fail
  refine (C0.out).mono ?_; rintro e w1 ⟨rfl, hB1⟩
  go_wp2_with fail
  refine (CG.out _ hB1).mono ?_; rintro e w2 ⟨rfl, rfl⟩
  clear C0 CG
  go_wp2_with fail
  refine (CJ.out _ hB1).mono ?_; rintro e w2 ⟨all, rfl, hO, h⟩
  have hB2 := ext_step hB1 h
  have hA2 := hO.lst
  clear h hO hB1 CJ
  go_wp2_with fail
  refine (CC.out _ hB2).mono ?_; rintro e w3 ⟨own, rfl, hO, h⟩
  have hB3 := ext_step hB2 h
  have hA3 := (hA2.below h).more h.size
  have hW3 := hO.lst
  clear h hO hB2 hA2 CC
  go_wp2_with fail
  refine (CO.out _ _ hW3).mono ?_; rintro e w4 ⟨c, rfl, hc4, h⟩
  have hB4 := ext_step hB3 h
  have hA4 := (hA3.below h).more h.size
  have hW4 := (hW3.below h).more h.size
  clear h hB3 hA3 hW3 CO
  go_wp2_with fail
  refine (CR.out _ hB4).mono ?_; rintro e w5 ⟨d, rfl, hd5, h⟩
  have hB5 := ext_step hB4 h
  have hA5 := (hA4.below h).more h.size
  have hW5 := (hW4.below h).more h.size
  have hc5 := (hc4.below h).more h.size
  clear h hB4 hA4 hW4 hc4 CR
  go_wp2_with fail
  refine (CS.out _ hB5).mono ?_; rintro e w6 ⟨rfl, h⟩
  have hB6 := ext_step hB5 h
  have hA6 := (hA5.below h).more h.size
  have hW6 := (hW5.below h).more h.size
  have hc6 := (hc5.below h).more h.size
  have hd6 := (hd5.below h).more h.size
  clear h hB5 hA5 hW5 hc5 hd5 CS
  go_wp2_with fail
  refine (CSR.out _ _ hA6).mono ?_; rintro e w7 ⟨rfl, rfl⟩
  go_wp2_with fail
  refine (CL.out _ hB6).mono ?_; rintro e w8 ⟨s1, rfl, hO, h⟩
  have hB8 := ext_step hB6 h
  have hA8 := (hA6.below h).more h.size
  have hW8 := (hW6.below h).more h.size
  have hc8 := (hc6.below h).more h.size
  have hd8 := (hd6.below h).more h.size
  have hs8 := hO.lst
  clear h hB6 hA6 hW6 hc6 hd6 hO CL CSR
  go_wp2_with fail
  refine (CLR.out _ _ hA8).mono ?_; rintro e w9 ⟨s2, rfl, hO, h⟩
  have hB9 := ext_step hB8 h
  have hW9 := (hW8.below h).more h.size
  have hc9 := (hc8.below h).more h.size
  have hd9 := (hd8.below h).more h.size
  have hs9 := (hs8.below h).more h.size
  have ht9 := hO.lst
  clear h hB8 hA8 hW8 hc8 hd8 hs8 hO CLR
  go_wp2_with fail
  refine (CE1.out _ _ _ hs9 ht9).mono ?_; rintro e wa ⟨rfl, n, rfl⟩
  have h := below_drewN (Below.refl w9.heap.size w9) n
  have hBa := ext_step hB9 h
  have hWa := (hW9.below h).more h.size
  have hca := (hc9.below h).more h.size
  have hda := (hd9.below h).more h.size
  generalize w9.drewN n = wa at *
  clear h hB9 hW9 hc9 hd9 hs9 ht9 CE1
  go_wp2_with fail
  refine (CE2.out _ _ _ hca hda).mono ?_; rintro e wb ⟨rfl, n, rfl⟩
  have h := below_drewN (Below.refl wa.heap.size wa) n
  have hBb := ext_step hBa h
  have hWb := (hWa.below h).more h.size
  generalize wa.drewN n = wb at *
  clear h hBa hWa hca hda CE2
  go_wp2_with fail
  refine (CE3.out _ _ hBb hWb).mono ?_; rintro e wc ⟨rfl, n, rfl⟩
  go_wp2_with fail
  go_ret
  exact ⟨rfl, below_drewN hBb n⟩
end Go.Proofs.Ytckbkbfnddhpnaa
