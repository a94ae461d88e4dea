/- The document's own histogram of a list: Of of noonmarkref05, walked. -/
import Derived.Test.YtmafkknnekkcdaaHstA
import Derived.Test.YtmafkknnekkcdaaNumAt
namespace Go.Proofs.Ytmafkknnekkcdaa
open Go.RowKit

def zrow : List Int := List.replicate 65 0
theorem zrow_len : zrow.length = 65 := by simp [zrow]
theorem zero65 (w : World) : (zeroValue 32).run Try.prog w = .ok (rowV zrow) w := by kernel_rfl
theorem info65 : (Try.prog.info? 32).map (·.size) = some 65 := by kernel_rfl

set_option maxRecDepth 100000 in
set_option maxHeartbeats 4000000 in
theorem rOf5_any (v : Value) (zs : List Int) (w : World) (hl : Lst w w.heap.size .i64 v zs) (hf : ∀ z ∈ zs, Fits z) (hn : zs.length ≤ 1000000) :
    Calls Try.prog 18 #[v] w fun e w' => e = .returned (rowV (histOf zs)) ∧ Below w.heap.size w w' := by
  obtain ⟨A, c, rfl⟩ := hl.len
  have hz0 := zero65
  have hzl := Lib.hid zrow_len
  have R0 := (RowAt.new w zrow 32).alloc (.cells ((zrow.map (Value.int .i64)).toArray) 32)
  have R1 := RowAt.new (w.alloc (.cells ((zrow.map (Value.int .i64)).toArray) 32)) zrow 32
  rw [World.size_alloc] at R1
  have HI : Hid ((Try.prog.info? 32).map (·.size) = some ((zrow.map (Value.int .i64)).toArray).size) := Lib.hid (by rw [info65]; rfl)
  have RT : Hid (World.there ((w.alloc (.cells ((zrow.map (Value.int .i64)).toArray) 32)).alloc (.cells ((zrow.map (Value.int .i64)).toArray) 32)) (w.heap.size + 1) 0 ((zrow.map (Value.int .i64)).toArray).size) := Lib.hid (by have := R1.there; simpa using this)
  have R2 : RowAt (((w.alloc (.cells ((zrow.map (Value.int .i64)).toArray) 32)).alloc (.cells ((zrow.map (Value.int .i64)).toArray) 32)).setCells (w.heap.size + 1) 0 ((zrow.map (Value.int .i64)).toArray).toList) (w.heap.size + 1) zrow := R1.put rfl
  have R3 : RowAt (((w.alloc (.cells ((zrow.map (Value.int .i64)).toArray) 32)).alloc (.cells ((zrow.map (Value.int .i64)).toArray) 32)).setCells (w.heap.size + 1) 0 ((zrow.map (Value.int .i64)).toArray).toList) w.heap.size zrow := R0.puts (by simp) _ _
  have hB : Below w.heap.size w (((w.alloc (.cells ((zrow.map (Value.int .i64)).toArray) 32)).alloc (.cells ((zrow.map (Value.int .i64)).toArray) 32)).setCells (w.heap.size + 1) 0 ((zrow.map (Value.int .i64)).toArray).toList) := (below_puts (((below_new w _).alloc (by simp) _)) (Nat.le_succ _) _ _)
  have HZ : Hid (zrow = histOf []) := Lib.hid rfl
  generalize zrow = zr at *
  clear R0 R1
  go_enter Try.func18, Try.ntmps18
  go_wp2_with (refine wpList_store_mid rfl _ (.tmp 3) (.tmp 5) rfl _ 0 _ rfl rfl RT.out HI.out (row_one _) ?_)
  generalize World.setCells _ _ _ _ = W at *
  have HL := Lib.hid hl
  have HF := Lib.hid hf
  have HN := Lib.hid hn
  clear hl hf RT HI hz0
  go_loopw [4] (fun i wr => ∃ k : Nat, k ≤ zs.length ∧ i = .int .i64 k ∧ Below w.heap.size w wr ∧ RowAt wr (w.heap.size + 1) (histOf (zs.take k)) ∧ RowAt wr w.heap.size zr) (fun i _ => zs.length - (intOf i).toNat)
  case atStart => exact ⟨0, Nat.zero_le _, rfl, hB, by rw [HZ.out] at R2; exact R2, R3⟩
  case round =>
    clear hB R2 R3
    obtain ⟨k, hk, rfl, hB, R2, R3⟩ := hrel
    by_cases hlt : k < zs.length
    · obtain ⟨A', c', e, _, hr⟩ := HL.out
      obtain ⟨ad, rfl, hb, hcell⟩ := hr (by omega)
      obtain rfl : A = some ad := by injection e
      clear e hr
      have c1 : wr.cell? (ad.add k) = some (.int .i64 zs[k]) := (hB.cell (by rw [block_of_add]; exact hb)).trans (hcell k hlt)
      have hz := HF.out zs[k] (List.getElem_mem hlt)
      have hbk := bktN_lt hz
      have CB := Lib.hid fun W => rBucket_any zs[k] W hz
      have HT : Hid (histOf (zs.take (k + 1)) = (histOf (zs.take k)).set (bktN zs[k]) (cntI (zs.take k) (bktN zs[k]) + 1)) := Lib.hid (by rw [List.take_succ_eq_append_getElem hlt, histOf_snoc])
      have c2 := R2.cell (bktN zs[k]) (by rw [histOf_length]; exact hbk)
      have c3 := R2.free (bktN zs[k]) (by rw [histOf_length]; exact hbk)
      rw [histOf_at _ hbk] at c2
      have hc := cntI_bd (zs.take k) (bktN zs[k])
      have hc2 : cntI (zs.take k) (bktN zs[k]) ≤ 1000000 := by have := HN.out; have h2 : (zs.take k).length ≤ k := List.length_take_le _ _; omega
      have hc1 := hc.1
      have HS := Lib.hid fun W (R : RowAt W (w.heap.size + 1) (histOf (zs.take k))) => R.set (k := bktN zs[k]) (by rw [histOf_length]; exact hbk) (cntI (zs.take k) (bktN zs[k]) + 1)
      rw [← HT.out] at HS
      clear hcell hb hc hz HT
      generalize cntI (zs.take k) (bktN zs[k]) = cn at *
      generalize bktN zs[k] = bk at *
      generalize zs[k] = z at *
      have i0 : (0 : Int) ≤ (bk : Int) := by omega
      have i1 : (bk : Int) < 65 := by omega
      go_wp2_with fail
      refine (CB.out _).mono ?_; rintro e w1 ⟨rfl, rfl⟩
      go_wp2_with fail
      go_roundw
      case rel => exact ⟨k + 1, hlt, by go_num, ext_put hB (Nat.le_succ _) _, HS.out _ R2, R3.other (by simp) _⟩
      case measure => simp [intOf]; omega
    · obtain rfl : k = zs.length := by omega
      rw [List.take_length] at R2
      have hhl := histOf_length zs
      have H1 : Hid ((Try.prog.info? 32).map (·.size) = some ((histOf zs).map (Value.int .i64)).length) := Lib.hid (by rw [info65, List.length_map, hhl])
      have H2 : Hid ((Try.prog.info? 32).map (·.size) = some (((histOf zs).map (Value.int .i64)).toArray).size) := Lib.hid (by rw [info65]; simp [hhl])
      have H3 : Hid (World.there wr w.heap.size 0 (((histOf zs).map (Value.int .i64)).toArray).size) := Lib.hid (by have := R3.there; rw [hzl.out] at this; simpa [hhl] using this)
      have R4 : RowAt (wr.setCells w.heap.size 0 (((histOf zs).map (Value.int .i64)).toArray).toList) w.heap.size (histOf zs) := R3.put (by rw [hhl, hzl.out])
      have hres := run_loadVar_mid (P := Try.prog) _ w.heap.size 0 32 _ _ R4.range Try.underlying32 rfl H1.out
      have hB4 := below_puts hB (Nat.le_refl _) 0 (((histOf zs).map (Value.int .i64)).toArray).toList
      have HR := Lib.hid R2.range
      have HRES := Lib.hid hres
      clear hhl R2 R3 R4 hB hres hlt hk
      have HHS : Hid (∀ hs, histOf zs = hs → Ending.returned (rowV hs) = .returned (rowV (histOf zs))) := Lib.hid fun hs h => by rw [h]
      generalize hhs : histOf zs = hs at H1 H2 H3 HR HRES hB4
      replace HHS := Lib.hid (HHS.out hs hhs)
      clear hhs
      go_wp2_with (first | (refine wpList_load_mid rfl _ (.tmp 3) rfl _ 0 rfl _ _ HR.out Try.underlying32 rfl H1.out ?_) | (refine wpList_store_mid rfl _ (.tmp 2) (.tmp 21) rfl _ 0 _ rfl rfl H3.out H2.out (row_one _) ?_))
      have hres := HRES.out
      exact bodyPost_ret (v := rowV hs) (by simp [results, Try.results18, asAddr, hres]) rfl ⟨HHS.out, hB4⟩
end Go.Proofs.Ytmafkknnekkcdaa
