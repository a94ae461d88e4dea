/- What wide.Of and wide.Sub answer, which only compute; a number is said by its value, which fits two words. -/
import Derived.Test.YtljgfallhnlebaaRows
import Derived.Test.YtljgfallhnlebaaTwo
import Derived.Laws.Externs
import Derived.Shelf.Spec.BitsCarry
import Derived.WalkSpells
import Derived.WalkLawsBesides
import Derived.BigQuiet
import Derived.Deep.DeepFit
import Derived.IntWalk
namespace Go.Proofs.Ytljgfallhnlebaa
open Go.RowKit

theorem sub2_eq (x y : Int) (hx : 0 ≤ x) (hx1 : x < 18446744073709551616) (hy : 0 ≤ y) (hy1 : y < 18446744073709551616) (w : World) :
    (callFunc 77 #[.int .u64 x, .int .u64 y, .int .u64 0]).run Try.prog w = .ok (.value (.tuple #[.int .u64 ((x - y) % 18446744073709551616), .int .u64 (-((x - y) / 18446744073709551616))])) w := by
  obtain ⟨x, rfl⟩ := Int.eq_ofNat_of_zero_le hx
  obtain ⟨y, rfl⟩ := Int.eq_ofNat_of_zero_le hy
  have h := run_sub64 (P := Try.prog) x y 0 (by omega) w
  rw [run_callFunc_extern Try.func77 (by kernel_rfl) (by kernel_rfl) (by kernel_rfl) (e := sub64Entry) (by kernel_rfl)]
  have e0 : ((0 : Nat) : Int) = 0 := rfl
  rw [e0] at h
  rw [h]
  have e1 : (((x + 18446744073709551616 - y - 0) % 18446744073709551616 : Nat) : Int) = ((x : Int) - y) % 18446744073709551616 := by omega
  have e2 : ((if x < y + 0 then 1 else 0 : Nat) : Int) = -(((x : Int) - y) / 18446744073709551616) := by split <;> omega
  rw [e1, e2]
  rfl

theorem up1 (w : World) (o : Obj) : Below w.heap.size w (w.alloc o) := (Below.refl _ _).alloc (Nat.le_refl _) o
theorem up2 (w : World) (o p : Obj) : Below w.heap.size w ((w.alloc o).alloc p) := (up1 w o).alloc (by simp) p
theorem up3 (w : World) (o p q : Obj) : Below w.heap.size w (((w.alloc o).alloc p).alloc q) := (up2 w o p).alloc (by simp; omega) q
theorem up4 (w : World) (o p q r : Obj) : Below w.heap.size w ((((w.alloc o).alloc p).alloc q).alloc r) := (up3 w o p q).alloc (by simp; omega) r

set_option maxRecDepth 100000 in
set_option maxHeartbeats 400000 in
theorem ofW_any (v : Int) (hv : Fits v) (w : World) :
    Calls Try.prog 63 #[.int .i64 v] w fun e w' => e = .returned (.agg #[.int .i64 ((v) / 18446744073709551616), .int .u64 ((v) % 18446744073709551616)]) ∧ Below w.heap.size w w' := by
  obtain ⟨h1, h2⟩ := long_words hv
  have H1 := Lib.hid h1
  have H2 := Lib.hid h2
  clear h1 h2 hv
  go_enter Try.func63, Try.ntmps63
  go_wp2
  exact bodyPost_ret (v := .agg #[.int .i64 (v / 9223372036854775808), .int .u64 (IntKind.u64.wrap v)]) (by simp [results, Try.results63, go_sem]) rfl ⟨ret_w H1.out H2.out, up1 _ _⟩

set_option maxRecDepth 100000 in
set_option maxHeartbeats 400000 in
theorem subW_any (a b : Int) (ha : Two a) (hb : Two b) (w : World) :
    Calls Try.prog 60 #[.agg #[.int .i64 ((a) / 18446744073709551616), .int .u64 ((a) % 18446744073709551616)], .agg #[.int .i64 ((b) / 18446744073709551616), .int .u64 ((b) % 18446744073709551616)]] w fun e w' => e = .returned (.tuple #[.agg #[.int .i64 ((twoV (a - b)) / 18446744073709551616), .int .u64 ((twoV (a - b)) % 18446744073709551616)], .int .i64 (twoE (a - b))]) ∧ Below w.heap.size w w' := by
  have hover := diff_over ha hb
  have hhi := diff_hi a b
  have hlo := (diff_words a b).2
  have e0 : ∀ W : World, _ := fun W => sub2_eq (a % 18446744073709551616) (b % 18446744073709551616) (lo_bd a).1 (lo_bd a).2 (lo_bd b).1 (lo_bd b).2 W
  rw [← hlo] at e0
  rw [← hhi] at hover
  by_cases hF : Two (a - b)
  · have e := Lib.hid (hhi.trans (wrap_of_fits hF))
    have h1 := twoV_fit hF
    have h2 := twoE_fit hF
    simp only [hF, decide_true, Bool.not_true] at hover
    rw [h1, h2]
    clear hF h1 h2 hhi hlo ha hb
    go_enter Try.func60, Try.ntmps60
    go_wp2
    exact bodyPost_ret (v := .tuple #[.agg #[.int .i64 (wrap64 (wrap64 (a / 18446744073709551616 - b / 18446744073709551616) + (a % 18446744073709551616 - b % 18446744073709551616) / 18446744073709551616)), .int .u64 ((a - b) % 18446744073709551616)], .int .i64 0]) (by simp [results, Try.results60, go_sem]) rfl ⟨ret_we e.out rfl rfl, up3 _ _ _ _⟩
  · have h1 := Lib.hid (twoV_over hF)
    have h2 := Lib.hid (twoE_over hF)
    simp only [hF, decide_false, Bool.not_false] at hover
    rw [h1.out, h2.out]
    clear hF h1 h2 hhi hlo ha hb
    go_enter Try.func60, Try.ntmps60
    go_wp2
    exact bodyPost_ret (v := .tuple #[.agg #[.int .i64 0, .int .u64 0], .int .i64 12]) (by simp [results, Try.results60, go_sem]) rfl ⟨rfl, up3 _ _ _ _⟩
end Go.Proofs.Ytljgfallhnlebaa
