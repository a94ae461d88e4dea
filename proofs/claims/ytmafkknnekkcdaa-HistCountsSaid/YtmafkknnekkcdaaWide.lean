/- The number of two words, walked; its words. -/
import Derived.Test.YtmafkknnekkcdaaNumAt
import Derived.Test.YtmafkknnekkcdaaRefH
import Derived.Deep.RegionHeld3
namespace Go.Proofs.Ytmafkknnekkcdaa
open Go.RowKit

theorem word_val : val [0, 0, 0, 0, 1] = 18446744073709551616 := by decide
/-- The number 2^64, just written out. -/
theorem word_num (w : World) : NumV (w.alloc (.cells #[.int .i64 0, .int .i64 0, .int .i64 0, .int .i64 0, .int .i64 1] 3)) (.agg #[.bool false, .slice (some ⟨w.heap.size, 0, none⟩) 5 5]) 18446744073709551616 := by
  refine ⟨_, rfl, [0, 0, 0, 0, 1], ⟨?_, fun d hd => by simp at hd; omega⟩, fun _ => by decide, by rw [word_val]; decide⟩
  have h := Lst.new (k := .i64) (zs := [0, 0, 0, 0, 1]) w 3 #[.int .i64 0, .int .i64 0, .int .i64 0, .int .i64 0, .int .i64 1] rfl
  rwa [← World.size_alloc w (.cells #[.int .i64 0, .int .i64 0, .int .i64 0, .int .i64 0, .int .i64 1] 3)] at h
theorem pow5 : (65536 : Int) ^ 5 = 1208925819614629174706176 := by decide

/-- The number 2^64 in a variable of its own. -/
abbrev wordObj : Obj := .cells #[.int .i64 0, .int .i64 0, .int .i64 0, .int .i64 0, .int .i64 1] 3
theorem word_at (w : World) : NumAt ((w.alloc wordObj).alloc (.cells #[.bool false, .slice (some ⟨w.heap.size, 0, none⟩) 5 5] 50)) (w.heap.size + 1) false (some ⟨w.heap.size, 0, none⟩) 5 5 18446744073709551616 := by
  have h := NumAt.new (word_num w) 50
  rwa [World.size_alloc] at h

set_option maxRecDepth 100000 in
set_option maxHeartbeats 4000000 in
theorem num2_any (hi lo : Int) (w : World) (hh : Fits hi) (l0 : 0 ≤ lo) (l1 : lo ≤ 18446744073709551615) :
    Calls Try.prog 46 #[.int .i64 hi, .int .u64 lo] w (GivesN w (hi * 18446744073709551616 + lo)) := by
  have H1 := Lib.hid hh
  have HM : Hid (mag (hi * 18446744073709551616) < 65536 ^ 8) := Lib.hid (by rw [pow8]; unfold Fits at hh; unfold mag; split <;> omega)
  have HW5 : Hid (mag 18446744073709551616 < (65536 : Int) ^ 5) := Lib.hid (by rw [pow5]; decide)
  have HL : Hid (mag lo < 65536 ^ 8) := Lib.hid (by rw [pow8]; unfold mag; split <;> omega)
  have H4 : Hid (mag hi < 65536 ^ 5) := Lib.hid (by have := mag_long hh; rw [pow4] at this; rw [pow5]; omega)
  clear hh
  have R0 := ((NumAt.new (zero_num w) 50).alloc wordObj).alloc (.cells #[.bool false, .slice (some ⟨w.heap.size + 1, 0, none⟩) 5 5] 50)
  have V0 := word_at (w.alloc fresh)
  rw [World.size_alloc] at V0
  have hbw : Below w.heap.size w (((w.alloc fresh).alloc wordObj).alloc (.cells #[.bool false, .slice (some ⟨w.heap.size + 1, 0, none⟩) 5 5] 50)) := ext_alloc (ext_alloc (below_new w _) _) _
  have HBW := Lib.hid hbw
  clear hbw
  go_enter Try.func46, Try.ntmps46
  go_upto_region 2 with fail
  change Code.wp _ _ _ _ (((w.alloc fresh).alloc wordObj).alloc (.cells #[.bool false, .slice (some ⟨w.heap.size + 1, 0, none⟩) 5 5] 50))
  generalize ((w.alloc fresh).alloc wordObj).alloc (.cells #[.bool false, .slice (some ⟨w.heap.size + 1, 0, none⟩) 5 5] 50) = W at *
  obtain ⟨k0, k1, k2, k3, k4⟩ := id V0
  go_region_held3 (fun w' => w'.cell? ⟨w.heap.size + 1 + 1, 0, none⟩ = some (.bool false) ∧ w'.cell? ⟨w.heap.size + 1 + 1, 1, none⟩ = some (.slice (some ⟨w.heap.size + 1, 0, none⟩) 5 5))
    ((first | exact ⟨k0, k1⟩ | exact ⟨a0, a1⟩ | exact ⟨b0, b1⟩ | exact ⟨d0, d1⟩ | exact ⟨g0, g1⟩ | (have hk := V4.put R4 (by omega) s4 A4 n4 c4; exact ⟨hk.c0, hk.c1⟩)))
    (first
      | (go_at_call 21; refine (of_any hi _ H1.out).mono ?_; rintro e w1 ⟨r1, rfl, hr1, hq1⟩; have V1 := V0.below (below_undrew hq1); have R1 := R0.below (below_undrew hq1); have e1 : Below w.heap.size w w1 := ext_step HBW.out (below_undrew hq1); obtain ⟨a0, a1, a2, a3, a4⟩ := id V1)
      | (go_at_call 42; refine (mulN_any _ _ hi 18446744073709551616 _ 5 (by exact hr1) (by exact a4) H4.out HW5.out (by omega)).mono ?_; rintro e w2 ⟨r2, rfl, hr2, hq2⟩; have V2 := V1.below hq2; have R2 := R1.below hq2; have e2 : Below w.heap.size w w2 := ext_step e1 hq2; obtain ⟨b0, b1, b2, b3, b4⟩ := id V2)
      | (go_at_call 38; refine (whole_any lo _ l0 l1).mono ?_; rintro e w3 ⟨r3, rfl, hr3, hq3⟩; have V3 := V2.below hq3; have R3 := R2.below hq3; have hr2' := hr2.below hq3; have e3 : Below w.heap.size w w3 := ext_step e2 hq3; obtain ⟨d0, d1, d2, d3, d4⟩ := id V3)
      | (go_at_call 20; refine (addN_any _ _ (hi * 18446744073709551616) lo _ 8 (by exact hr2') (by exact hr3) HM.out HL.out (by omega)).mono ?_; rintro e w4 ⟨r4, rfl, hr4, hq4⟩; have V4 := V3.below hq4; have R4 := R3.below hq4; have e4 : Below w.heap.size w w4 := ext_step e3 hq4; obtain ⟨g0, g1, g2, g3, g4⟩ := id V4; obtain ⟨y0, y1, y2, y3, y4⟩ := id R4; have HR4 := Lib.hid hr4; obtain ⟨s4, A4, n4, c4, rfl, -, -⟩ := hr4.form))
  have hS := R4.set_ HR4.out
  have hE : Below w.heap.size w ((w4.setCell ⟨w.heap.size, 0, none⟩ (.bool s4)).setCell ⟨w.heap.size, 1, none⟩ (.slice A4 n4 c4)) := ext_put (ext_put e4 (Nat.le_refl _) _) (Nat.le_refl _) _
  clear V0 V1 V2 V3 V4 R0 R1 R2 R3 R4 hr1 hr2 hr2' hr3 hr4 hq1 hq2 hq3 hq4 e1 e2 e3 e4 k0 k1 k2 k3 k4 a0 a1 a2 a3 a4 b0 b1 b2 b3 b4 d0 d1 d2 d3 d4 g0 g1 g2 g3 g4
  go_wp2_with fail
  exact bodyPost_ret (v := .agg #[.bool s4, .slice A4 n4 c4]) (by simp [results, Try.results46, go_sem, y0, y1]) rfl ⟨_, rfl, hS.num, hE⟩
end Go.Proofs.Ytmafkknnekkcdaa
