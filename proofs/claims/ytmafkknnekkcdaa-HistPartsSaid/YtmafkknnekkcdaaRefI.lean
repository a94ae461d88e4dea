/- The document's own total of a list of longs, walked. -/
import Derived.Test.YtmafkknnekkcdaaRefH0
import Derived.Test.YtmafkknnekkcdaaPsum
import Derived.Deep.RegionWith
namespace Go.Proofs.Ytmafkknnekkcdaa
open Go.RowKit

/-- The total behind k rounds, in its own cells; the result's cells as they were made. -/
structure Acc (w wr : World) (zs : List Int) (k : Nat) (b : Bool) (A : Option Addr) (n c : Nat) : Prop where
  o0 : wr.cell? ⟨w.heap.size + 1, 0, none⟩ = some (.bool b)
  o1 : wr.cell? ⟨w.heap.size + 1, 1, none⟩ = some (.slice A n c)
  p0 : wr.frozen? ⟨w.heap.size + 1, 0, none⟩ = false
  p1 : wr.frozen? ⟨w.heap.size + 1, 1, none⟩ = false
  r0 : wr.cell? ⟨w.heap.size, 0, none⟩ = some (.bool false)
  r1 : wr.cell? ⟨w.heap.size, 1, none⟩ = some (.slice none 0 0)
  q0 : wr.frozen? ⟨w.heap.size, 0, none⟩ = false
  q1 : wr.frozen? ⟨w.heap.size, 1, none⟩ = false
  num : NumV wr (.agg #[.bool b, .slice A n c]) (psum zs k)
  bel : Below w.heap.size w wr
  sz : w.heap.size + 1 < wr.heap.size
theorem Acc.below {w wr w1 : World} {zs : List Int} {k : Nat} {b : Bool} {A : Option Addr} {n c : Nat} (h : Acc w wr zs k b A n c) (hb : Below wr.heap.size wr w1) : Acc w w1 zs k b A n c := by
  obtain ⟨hc, hf⟩ := bcell hb
  have := h.sz
  exact ⟨(hc _ _ (by omega)).trans h.o0, (hc _ _ (by omega)).trans h.o1, (hf _ _ (by omega)).trans h.p0, (hf _ _ (by omega)).trans h.p1, (hc _ _ (by omega)).trans h.r0, (hc _ _ (by omega)).trans h.r1,
    (hf _ _ (by omega)).trans h.q0, (hf _ _ (by omega)).trans h.q1, h.num.below hb, h.bel.trans (hb.mono (by omega)), by have := hb.size; omega⟩
theorem Acc.stored {w wr : World} {zs : List Int} {k k' : Nat} {b b' : Bool} {A A' : Option Addr} {n c n' c' : Nat} (h : Acc w wr zs k b A n c) (hn : NumV wr (.agg #[.bool b', .slice A' n' c']) (psum zs k')) :
    Acc w ((wr.setCell ⟨w.heap.size + 1, 0, none⟩ (.bool b')).setCell ⟨w.heap.size + 1, 1, none⟩ (.slice A' n' c')) zs k' b' A' n' c' := by
  have e0 : ∀ j, ((wr.setCell ⟨w.heap.size + 1, 0, none⟩ (.bool b')).setCell ⟨w.heap.size + 1, 1, none⟩ (.slice A' n' c')).cell? ⟨w.heap.size, j, none⟩ = wr.cell? ⟨w.heap.size, j, none⟩ := fun j => by
    rw [World.cell?_setCell_other _ _ _ _ (fun e => by injection e with e1; omega), World.cell?_setCell_other _ _ _ _ (fun e => by injection e with e1; omega)]
  have e1 : (wr.setCell ⟨w.heap.size + 1, 0, none⟩ (.bool b')).cell? ⟨w.heap.size + 1, 1, none⟩ = some (.slice A n c) := by
    rw [World.cell?_setCell_other _ _ _ _ (by simp)]; exact h.o1
  have hS := NumV.stored (w := w) (B0 := w.heap.size) hn h.bel (Nat.le_succ _) ⟨b, h.o0⟩ ⟨A, n, c, h.o1⟩
  refine ⟨?_, World.cell?_setCell_same _ _ _ e1, ?_, ?_, (e0 0).trans h.r0, (e0 1).trans h.r1, ?_, ?_, hS.1, hS.2, by simpa using h.sz⟩
  · rw [World.cell?_setCell_other _ _ _ _ (by simp)]
    exact World.cell?_setCell_same _ _ _ h.o0
  · simpa using h.p0
  · simpa using h.p1
  · simpa using h.q0
  · simpa using h.q1
theorem frozen_new (w : World) (o : Obj) (t : TypeId) (x y : Value) (i : Nat) : ((w.alloc (.cells #[x, y] t)).alloc o).frozen? ⟨w.heap.size, i, none⟩ = false := by
  have h := (below_new1 w (.cells #[x, y] t) o).frozen (p := ⟨w.heap.size, i, none⟩) (Nat.lt_succ_self _)
  rw [h]
  unfold World.frozen?
  show (match (w.alloc (.cells #[x, y] t)).heap[w.heap.size]? with | some (.cells _ _ (lo, hi)) => decide (lo ≤ i) && decide (i < hi) | _ => false) = false
  rw [heap_alloc_new]
  simp
theorem frozen_new1 (w : World) (o : Obj) (t : TypeId) (x y : Value) (i : Nat) : ((w.alloc o).alloc (.cells #[x, y] t)).frozen? ⟨w.heap.size + 1, i, none⟩ = false := by
  have h := heap_alloc_new (w.alloc o) (.cells #[x, y] t)
  rw [World.size_alloc] at h
  unfold World.frozen?
  show (match ((w.alloc o).alloc (.cells #[x, y] t)).heap[w.heap.size + 1]? with | some (.cells _ _ (lo, hi)) => decide (lo ≤ i) && decide (i < hi) | _ => false) = false
  rw [h]
  simp
theorem cell_new0 (w : World) (o : Obj) (t : TypeId) (x y : Value) (i : Nat) : ((w.alloc (.cells #[x, y] t)).alloc o).cell? ⟨w.heap.size, i, none⟩ = #[x, y][i]? := by
  rw [(below_new1 w (.cells #[x, y] t) o).cell (p := ⟨w.heap.size, i, none⟩) (Nat.lt_succ_self _), World.cell?_alloc_new]
theorem Acc.start (w : World) (zs : List Int) : Acc w ((w.alloc fresh).alloc fresh) zs 0 false none 0 0 :=
  ⟨cell_new1 _ _ _, cell_new1' _ _ _, frozen_new1 _ _ _ _ _ _, frozen_new1 _ _ _ _ _ _, cell_new0 _ _ _ _ _ 0, cell_new0 _ _ _ _ _ 1, frozen_new _ _ _ _ _ _, frozen_new _ _ _ _ _ _,
    by rw [psum_zero]; exact ⟨_, rfl, [], ⟨Lst.nil _ _ _, Digs.nil⟩, fun h => absurd h (by simp), rfl⟩, (below_new _ _).alloc (by simp) _, by simp⟩
theorem mag_psum {zs : List Int} (hf : ∀ z ∈ zs, Fits z) {k : Nat} (hk : k ≤ zs.length) (hn : zs.length ≤ 1000000) : mag (psum zs k) < 65536 ^ 8 := by
  obtain ⟨a, b⟩ := psum_bd zs hf k hk
  rw [pow8]; unfold mag; split <;> omega

set_option maxRecDepth 100000 in
set_option maxHeartbeats 2000000 in
theorem total_any (v : Value) (zs : List Int) (w : World) (hl : Lst w w.heap.size .i64 v zs) (hf : ∀ z ∈ zs, Fits z) (hn : zs.length ≤ 1000000) :
    Calls Try.prog 51 #[v] w (GivesN w zs.sum) := by
  obtain ⟨A, c, rfl, hc, hr⟩ := hl
  have HF := Lib.hid hf
  have HR := Lib.hid hr
  clear hf hr
  go_enter Try.func51, Try.ntmps51
  go_wp2_with fail
  go_loopw [4] (fun i wr => ∃ (k : Nat) (b : Bool) (A' : Option Addr) (n' c' : Nat), k ≤ zs.length ∧ i = .int .i64 k ∧ Acc w wr zs k b A' n' c') (fun i _ => zs.length - (intOf i).toNat)
  case atStart => exact ⟨0, false, none, 0, 0, Nat.zero_le _, rfl, Acc.start w zs⟩
  case round =>
    obtain ⟨k, b, A', n', c', hk, rfl, hacc⟩ := hrel
    obtain ⟨o0, o1, p0, p1, r0, r1, q0, q1, hnum, hbel, hsz⟩ := id hacc
    by_cases hlt : k < zs.length
    · obtain ⟨ad, rfl, hblk, hcell⟩ := HR.out (by omega)
      have lc := (hbel.cell (p := ad.add k) (by rw [block_of_add]; exact hblk)).trans (hcell k hlt)
      have hz := Lib.hid (HF.out _ (List.getElem_mem hlt))
      have hps := Lib.hid (psum_succ zs k hlt)
      have hmg := Lib.hid (mag_psum HF.out hk hn)
      have hmg1 := Lib.hid (mag_psum HF.out hlt hn)
      clear hcell hblk
      generalize zs[k] = z at *
      go_upto_region 5 with fail
      go_region_with (first
          | (go_at_call 21; refine (of_any z _ hz.out).mono ?_; rintro e w1 ⟨s1, rfl, hs1, hq1⟩; have hb1 : Below wr.heap.size wr w1 := ⟨hq1.os, hq1.tape, hq1.output, hq1.size, hq1.block⟩; clear hq1; have hacc1 := hacc.below hb1; obtain ⟨i0, i1, i2, i3, i4, i5, i6, i7, hnum1, hbel1, hsz1⟩ := id hacc1)
          | (go_at_call 20; refine (addN_any _ _ (psum zs k) z _ 8 (by exact hnum1) (by exact hs1) hmg.out (by have := mag_long hz.out; rw [pow4] at this; rw [pow8]; omega) (by omega)).mono ?_; rintro e w2 ⟨s2, rfl, hs2, hq2⟩; have hb2 : Below w1.heap.size w1 w2 := ⟨hq2.os, hq2.tape, hq2.output, hq2.size, hq2.block⟩; clear hq2; have hacc2 := hacc1.below hb2; obtain ⟨j0, j1, j2, j3, j4, j5, j6, j7, hnum2, hbel2, hsz2⟩ := id hacc2; have HS2 := Lib.hid hs2; obtain ⟨b2, A2, n2, c2, rfl, -, -⟩ := hs2.form))
      all_goals
        go_wp2_with fail
        go_roundw
        case rel => exact ⟨k + 1, b2, A2, n2, c2, hlt, by go_num, hacc2.stored (by rw [hps.out]; exact HS2.out)⟩
        case measure => simp [intOf]; omega
    · obtain rfl : k = zs.length := by omega
      rw [psum_all] at hnum
      have hS := NumV.stored hnum hbel (Nat.le_refl _) ⟨false, r0⟩ ⟨none, 0, 0, r1⟩
      have HS := Lib.hid hS
      clear hS hnum hacc HF HR
      go_wp2_with fail
      exact bodyPost_ret (v := .agg #[.bool b, .slice A' n' c']) (by simp [results, Try.results51, go_sem, r0, r1]) rfl ⟨_, rfl, HS.out⟩
end Go.Proofs.Ytmafkknnekkcdaa
