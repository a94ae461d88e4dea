/- What wide.Of answers, which only computes; a number is said by its value, which fits two words; memory that grows by a few blocks. -/
import Derived.Test.YtmafkknnekkcdaaRows
import Derived.Test.YtmafkknnekkcdaaTwo
import Derived.Laws.Externs
import Derived.Shelf.Spec.BitsCarry
import Derived.WalkSpells
import Derived.WalkLawsBesides
import Derived.BigQuiet
import Derived.Deep.DeepFit
import Derived.IntWalk
namespace Go.Proofs.Ytmafkknnekkcdaa
open Go.RowKit

theorem up1 (w : World) (o : Obj) : Below w.heap.size w (w.alloc o) := (Below.refl _ _).alloc (Nat.le_refl _) o
theorem up2 (w : World) (o p : Obj) : Below w.heap.size w ((w.alloc o).alloc p) := (up1 w o).alloc (by simp) p
theorem up3 (w : World) (o p q : Obj) : Below w.heap.size w (((w.alloc o).alloc p).alloc q) := (up2 w o p).alloc (by simp; omega) q
theorem up4 (w : World) (o p q r : Obj) : Below w.heap.size w ((((w.alloc o).alloc p).alloc q).alloc r) := (up3 w o p q).alloc (by simp; omega) r

set_option maxRecDepth 100000 in
set_option maxHeartbeats 400000 in
theorem ofW_any (v : Int) (hv : Fits v) (w : World) :
    Calls Try.prog 27 #[.int .i64 v] w fun e w' => e = .returned (.agg #[.int .i64 ((v) / 18446744073709551616), .int .u64 ((v) % 18446744073709551616)]) ∧ Below w.heap.size w w' := by
  obtain ⟨h1, h2⟩ := long_words hv
  have H1 := Lib.hid h1
  have H2 := Lib.hid h2
  clear h1 h2 hv
  go_enter Try.func27, Try.ntmps27
  go_wp2
  exact bodyPost_ret (v := .agg #[.int .i64 (v / 9223372036854775808), .int .u64 (IntKind.u64.wrap v)]) (by simp [results, Try.results27, go_sem]) rfl ⟨ret_w H1.out H2.out, up1 _ _⟩
end Go.Proofs.Ytmafkknnekkcdaa
