/- What wide.Sum answers: the list's sum. -/
import Derived.Test.YtmafkknnekkcdaaInt
import Derived.Test.YtmafkknnekkcdaaAtW
import Derived.Deep.RegionWith
import Derived.Test.YtmafkknnekkcdaaPsum
namespace Go.Proofs.Ytmafkknnekkcdaa
open Go.RowKit

set_option maxRecDepth 100000 in
set_option maxHeartbeats 1000000 in
theorem sumW_any (v : Value) (zs : List Int) (w : World) (hl : Lst w w.heap.size .i64 v zs) (hf : ∀ z ∈ zs, Fits z) (hn : zs.length ≤ 9223372036854775807) :
    Calls Try.prog 43 #[v] w fun e w' => e = .returned (.agg #[.int .i64 ((zs.sum) / 18446744073709551616), .int .u64 ((zs.sum) % 18446744073709551616)]) ∧ Below w.heap.size w w' := by
  obtain ⟨A, c, rfl, hc, hr⟩ := hl
  have HF := Lib.hid hf
  have HR := Lib.hid hr
  clear hf hr
  go_enter Try.func43, Try.ntmps43
  go_wp2_with fail
  go_loopw [8] (fun i wr => ∃ k : Nat, k ≤ zs.length ∧ i = .int .i64 k ∧ AtP wr w.heap.size 0 0 ∧ AtP wr (w.heap.size + 1) (psum zs k / 18446744073709551616) (psum zs k % 18446744073709551616) ∧ Below w.heap.size w wr) (fun i _ => zs.length - (intOf i).toNat)
  case atStart => exact ⟨0, Nat.zero_le _, rfl, (AtP.two w 0 0 0 0 47).1, (AtP.two w 0 0 0 0 47).2, up2 _ _ _⟩
  case round =>
    obtain ⟨k, hk, rfl, hR, hT, hbel⟩ := hrel
    by_cases hlt : k < zs.length
    · obtain ⟨ad, rfl, hblk, hcell⟩ := HR.out (by omega)
      have lc := (hbel.cell (p := ad.add k) (by rw [block_of_add]; exact hblk)).trans (hcell k hlt)
      have hz := Lib.hid (HF.out _ (List.getElem_mem hlt))
      have hps := Lib.hid (psum_succ zs k hlt)
      have ht : Two (psum zs k) := by rw [two_bd]; have := psum_bd zs HF.out k hk; omega
      have ht' : Two (psum zs k + zs[k]) := by rw [two_bd, ← hps.out]; have := psum_bd zs HF.out (k + 1) hlt; omega
      have CO := Lib.hid (ofW_any zs[k] hz.out)
      have CA := addW_any (psum zs k) zs[k] ht (two_of_long hz.out)
      rw [twoV_fit ht', twoE_fit ht', ← hps.out] at CA
      replace CA := Lib.hid CA
      clear hcell hblk ht ht' hps hz
      generalize zs[k] = z at *
      go_upto_region 5 with fail
      obtain ⟨r0, r1, p0, p1⟩ := id hR
      obtain ⟨t0, t1, q0, q1⟩ := id hT
      go_region_with (first
          | (go_at_call 27; refine (CO.out _).mono ?_; rintro e w1 ⟨rfl, hq1⟩; have hb1 : Below wr.heap.size wr w1 := ⟨hq1.os, hq1.tape, hq1.output, hq1.size, hq1.block⟩; clear hq1; have hR1 := hR.below hb1; have hT1 := hT.below hb1; have hB1 := ext_step hbel hb1; obtain ⟨a0, a1, a2, a3⟩ := id hR1; obtain ⟨b0, b1, b2, b3⟩ := id hT1)
          | (go_at_call 45; refine (CA.out _).mono ?_; rintro e w2 ⟨rfl, hq2⟩; have hb2 : Below w1.heap.size w1 w2 := ⟨hq2.os, hq2.tape, hq2.output, hq2.size, hq2.block⟩; clear hq2; have hR2 := hR1.below hb2; have hT2 := hT1.below hb2; have hB2 := ext_step hB1 hb2; obtain ⟨d0, d1, d2, d3⟩ := id hR2; obtain ⟨g0, g1, g2, g3⟩ := id hT2))
      all_goals
        go_wp2_with fail
        go_roundw
        case rel => exact ⟨k + 1, hlt, by go_num, (hR2.other (by omega) _ _).other (by omega) _ _, hT2.set_ _ _, ext_put (ext_put hB2 (Nat.le_succ _) _) (Nat.le_succ _) _⟩
        case measure => simp [intOf]; omega
    · obtain rfl : k = zs.length := by omega
      rw [psum_all] at hT
      obtain ⟨r0, r1, p0, p1⟩ := id hR
      obtain ⟨t0, t1, q0, q1⟩ := id hT
      have HB := Lib.hid hbel
      clear HF HR hbel hR hT
      go_wp2_with fail
      exact bodyPost_ret (v := .agg #[.int .i64 ((zs.sum) / 18446744073709551616), .int .u64 ((zs.sum) % 18446744073709551616)]) (by simp [results, Try.results43, go_sem, r0, r1]) rfl ⟨rfl, ext_put (ext_put HB.out (Nat.le_refl _) _) (Nat.le_refl _) _⟩
end Go.Proofs.Ytmafkknnekkcdaa
