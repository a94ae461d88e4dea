/- The law's own helpers: a wide number as the references have it, and whether it is the one that they tell. -/
import Derived.Test.YtedojpblfmkjeaaDoorAtW
import Derived.Test.YtedojpblfmkjeaaDoorWords
namespace Go.Proofs.YtedojpblfmkjeaaDoor
open Go.RowKit

theorem two_mag {x : Int} (h : Two x) : mag x < 65536 ^ 9 := by
  rw [two_bd] at h
  have e : (65536 : Int) ^ 9 = 22300745198530623141535718272648361505980416 := by decide
  rw [e]; unfold mag; split <;> omega

set_option maxRecDepth 100000 in
set_option maxHeartbeats 1000000 in
theorem numW_any (a : Int) (ha : Two a) (w : World) :
    Calls Tryd.prog 13 #[.agg #[.int .i64 ((a) / 18446744073709551616), .int .u64 ((a) % 18446744073709551616)]] w (GivesN w a) := by
  have cn := fun W : World => num2_any (a / 18446744073709551616) (a % 18446744073709551616) W ha (lo_bd a).1 (by have := (lo_bd a).2; omega)
  rw [show a / 18446744073709551616 * 18446744073709551616 + a % 18446744073709551616 = a by omega] at cn
  have CN := Lib.hid cn
  clear cn ha
  go_enter Tryd.func13, Tryd.ntmps13
  go_wp2_with fail
  refine (CN.out _).mono ?_; rintro e w1 ⟨r, rfl, hr, hb1⟩
  have HR := Lib.hid hr
  obtain ⟨s2, A2, n2, c2, rfl, -, -⟩ := hr.form
  simp only [World.size_alloc] at hb1
  obtain ⟨hc, hf⟩ := bcell hb1
  have hs2 := hb1.size
  simp only [World.size_alloc] at hs2
  go_wp2_with fail
  have hS := stored_num HR.out (up2 w (.cells #[.int .i64 (a / 18446744073709551616), .int .u64 (a % 18446744073709551616)] 24) fresh) hb1 (Nat.le_succ _) (cell_new1 _ _ _) (cell_new1' _ _ _)
  exact bodyPost_ret (v := .agg #[.bool s2, .slice A2 n2 c2]) (by simp [results, Tryd.results13, go_sem, hc]) rfl ⟨_, rfl, hS⟩

set_option maxRecDepth 100000 in
set_option maxHeartbeats 2000000 in
theorem same_any (x : Int) (r : Value) (w : World) (L : Nat) (hx : NumV w r x) (lx : mag x < 65536 ^ L) (h5 : 5 ≤ L) (hL : L ≤ 900) :
    Calls Tryd.prog 14 #[.agg #[.int .i64 ((twoV x) / 18446744073709551616), .int .u64 ((twoV x) % 18446744073709551616)], .int .i64 (twoE x), r] w fun e w' => e = .returned (.bool true) ∧ Below w.heap.size w w' := by
  obtain ⟨s, A, n, c, rfl, -, -⟩ := hx.form
  have HX := Lib.hid hx
  have HL := Lib.hid lx
  clear hx lx
  by_cases hF : Two x
  · rw [twoV_fit hF, twoE_fit hF]
    have hd : decide (Fits (x / 18446744073709551616)) = true := decide_eq_true hF
    have h1 : wordHi x = x / 18446744073709551616 := if_pos hF
    have h2 : wordLo x = x % 18446744073709551616 := if_pos hF
    have CW : Hid (∀ W : World, NumV W (.agg #[.bool s, .slice A n c]) x → Calls Tryd.prog 29 #[.agg #[.bool s, .slice A n c]] W fun e w' => e = .returned (.tuple #[.int .i64 (x / 18446744073709551616), .int .u64 (x % 18446744073709551616), .bool true]) ∧ Below W.heap.size W w') :=
      Lib.hid fun W h => (words_any _ x W L h HL.out h5 hL).mono fun e w' ⟨he, hb⟩ => ⟨by rw [he, h1, h2, hd], hb⟩
    clear hd h1 h2 hF
    go_enter Tryd.func14, Tryd.ntmps14
    go_wp2_with fail
    refine (CW.out _ (HX.out.below (up2 _ _ _))).mono ?_; rintro e w1 ⟨rfl, hb1⟩
    have hA := ((AtP.new w (x / 18446744073709551616) (x % 18446744073709551616) 24).alloc (.cells #[.bool s, .slice A n c] 34)).below hb1
    have HB := Lib.hid ((up2 w (.cells #[.int .i64 (x / 18446744073709551616), .int .u64 (x % 18446744073709551616)] 24) (.cells #[.bool s, .slice A n c] 34)).trans (hb1.mono (by simp; omega)))
    obtain ⟨a0, a1, a2, a3⟩ := id hA
    clear hA hb1
    go_wp2_with fail
    go_ret
    exact ⟨rfl, HB.out⟩
  · rw [twoV_over hF, twoE_over hF]
    have hd : decide (Fits (x / 18446744073709551616)) = false := decide_eq_false hF
    have h1 : wordHi x = 0 := if_neg hF
    have h2 : wordLo x = 0 := if_neg hF
    have CW : Hid (∀ W : World, NumV W (.agg #[.bool s, .slice A n c]) x → Calls Tryd.prog 29 #[.agg #[.bool s, .slice A n c]] W fun e w' => e = .returned (.tuple #[.int .i64 0, .int .u64 0, .bool false]) ∧ Below W.heap.size W w') :=
      Lib.hid fun W h => (words_any _ x W L h HL.out h5 hL).mono fun e w' ⟨he, hb⟩ => ⟨by rw [he, h1, h2, hd], hb⟩
    clear hd h1 h2 hF
    go_enter Tryd.func14, Tryd.ntmps14
    go_wp2_with fail
    refine (CW.out _ (HX.out.below (up2 _ _ _))).mono ?_; rintro e w1 ⟨rfl, hb1⟩
    have hA := ((AtP.new w (0) (0) 24).alloc (.cells #[.bool s, .slice A n c] 34)).below hb1
    have HB := Lib.hid ((up2 w (.cells #[.int .i64 (0), .int .u64 (0)] 24) (.cells #[.bool s, .slice A n c] 34)).trans (hb1.mono (by simp; omega)))
    obtain ⟨a0, a1, a2, a3⟩ := id hA
    clear hA hb1
    go_wp2_with fail
    go_ret
    exact ⟨rfl, HB.out⟩
end Go.Proofs.YtedojpblfmkjeaaDoor
