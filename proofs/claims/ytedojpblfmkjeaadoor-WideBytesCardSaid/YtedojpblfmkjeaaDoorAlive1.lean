/- What the package answers at the fixed calls of the guard that each law begins with; behind the table of powers as the program lays it. -/
import Derived.Test.YtedojpblfmkjeaaDoorCmpW
import Derived.Test.YtedojpblfmkjeaaDoorSumW
import Derived.Test.YtedojpblfmkjeaaDoorParseW
import Derived.Test.YtedojpblfmkjeaaDoorByteVal
namespace Go.Proofs.YtedojpblfmkjeaaDoor
open Go.RowKit

theorem bytesW_any (a : Int) (w : World) : Calls Tryd.prog 31 #[.agg #[.int .i64 ((a) / 18446744073709551616), .int .u64 ((a) % 18446744073709551616)]] w (Copied 5 .u8 w (bytesI a)) := bytesW_raw _ _ w
theorem call_as {P : Program} {f : FuncId} {args args' : Array Value} {w : World} {Q Q' : Ending → World → Prop} (h : Calls P f args w Q) (ha : args = args') (hq : ∀ e w', Q e w' → Q' e w') : Calls P f args' w Q' := by
  subst ha; exact h.mono hq
set_option maxRecDepth 100000 in
theorem alive_CO1 (W : World) : Calls Tryd.prog 21 #[.int .i64 (1)] W fun e w' => e = .returned (.agg #[.int .i64 (0), .int .u64 1]) ∧ Below W.heap.size W w' :=
  call_as (ofW_any (1) (by decide) W) (by rfl) fun e w' ⟨he, hb⟩ => ⟨he.trans (by rfl), hb⟩
set_option maxRecDepth 100000 in
theorem alive_COm1 (W : World) : Calls Tryd.prog 21 #[.int .i64 (-1)] W fun e w' => e = .returned (.agg #[.int .i64 (-1), .int .u64 18446744073709551615]) ∧ Below W.heap.size W w' :=
  call_as (ofW_any (-1) (by decide) W) (by rfl) fun e w' ⟨he, hb⟩ => ⟨he.trans (by rfl), hb⟩
set_option maxRecDepth 100000 in
theorem alive_COm7 (W : World) : Calls Tryd.prog 21 #[.int .i64 (-7)] W fun e w' => e = .returned (.agg #[.int .i64 (-1), .int .u64 18446744073709551609]) ∧ Below W.heap.size W w' :=
  call_as (ofW_any (-7) (by decide) W) (by rfl) fun e w' ⟨he, hb⟩ => ⟨he.trans (by rfl), hb⟩
set_option maxRecDepth 100000 in
theorem alive_COm2 (W : World) : Calls Tryd.prog 21 #[.int .i64 (-2)] W fun e w' => e = .returned (.agg #[.int .i64 (-1), .int .u64 18446744073709551614]) ∧ Below W.heap.size W w' :=
  call_as (ofW_any (-2) (by decide) W) (by rfl) fun e w' ⟨he, hb⟩ => ⟨he.trans (by rfl), hb⟩
set_option maxRecDepth 100000 in
theorem alive_CA (W : World) : Calls Tryd.prog 9 #[.agg #[.int .i64 (0), .int .u64 18446744073709551615], .agg #[.int .i64 (0), .int .u64 1]] W fun e w' => e = .returned (.tuple #[.agg #[.int .i64 (1), .int .u64 0], .int .i64 0]) ∧ Below W.heap.size W w' :=
  call_as (addW_any 18446744073709551615 1 (by decide) (by decide) W) (by rfl) fun e w' ⟨he, hb⟩ => ⟨he.trans (by rfl), hb⟩
set_option maxRecDepth 100000 in
theorem alive_CS (W : World) : Calls Tryd.prog 10 #[.agg #[.int .i64 (-1), .int .u64 18446744073709551615], .agg #[.int .i64 (0), .int .u64 1]] W fun e w' => e = .returned (.tuple #[.agg #[.int .i64 (-1), .int .u64 18446744073709551614], .int .i64 0]) ∧ Below W.heap.size W w' :=
  call_as (subW_any (-1) 1 (by decide) (by decide) W) (by rfl) fun e w' ⟨he, hb⟩ => ⟨he.trans (by rfl), hb⟩
set_option maxRecDepth 100000 in
theorem alive_CP1 (W : World) (h : Pows W) : Calls Tryd.prog 27 #[.string ⟨#[45, 49, 56, 52, 52, 54, 55, 52, 52, 48, 55, 51, 55, 48, 57, 53, 53, 49, 54, 49, 55]⟩] W fun e w' => e = .returned (.tuple #[.agg #[.int .i64 (-2), .int .u64 18446744073709551615], .bool true]) ∧ Below W.heap.size W w' :=
  call_as (parseW_any ⟨#[45, 49, 56, 52, 52, 54, 55, 52, 52, 48, 55, 51, 55, 48, 57, 53, 53, 49, 54, 49, 55]⟩ [45, 49, 56, 52, 52, 54, 55, 52, 52, 48, 55, 51, 55, 48, 57, 53, 53, 49, 54, 49, 55] rfl W h (by decide)) (by rfl) fun e w' ⟨he, hb⟩ => ⟨he.trans (by rfl), hb⟩
set_option maxRecDepth 100000 in
theorem alive_CP2 (W : World) (h : Pows W) : Calls Tryd.prog 27 #[.string ⟨#[45, 48]⟩] W fun e w' => e = .returned (.tuple #[.agg #[.int .i64 (0), .int .u64 0], .bool false]) ∧ Below W.heap.size W w' :=
  call_as (parseW_any ⟨#[45, 48]⟩ [45, 48] rfl W h (by decide)) (by rfl) fun e w' ⟨he, hb⟩ => ⟨he.trans (by rfl), hb⟩
set_option maxRecDepth 100000 in
theorem alive_CL (W : World) : Calls Tryd.prog 11 #[.agg #[.int .i64 (-1), .int .u64 18446744073709551609]] W fun e w' => e = .returned (.tuple #[.int .i64 (-7), .bool true]) ∧ Below W.heap.size W w' :=
  call_as (longW_any (-7) W) (by rfl) fun e w' ⟨he, hb⟩ => ⟨he.trans (by rfl), hb⟩
set_option maxRecDepth 100000 in
theorem alive_CC (W : World) : Calls Tryd.prog 17 #[.agg #[.int .i64 (1), .int .u64 0], .agg #[.int .i64 (-1), .int .u64 18446744073709551614]] W fun e w' => e = .returned (.int .i64 1) ∧ Below W.heap.size W w' :=
  call_as (cmpW_any 18446744073709551616 (-2) W) (by rfl) fun e w' ⟨he, hb⟩ => ⟨he.trans (by rfl), hb⟩
set_option maxRecDepth 100000 in
theorem alive_CT (W : World) : Calls Tryd.prog 22 #[.int .i64 4611686018427387904, .int .i64 (-4)] W fun e w' => e = .returned (.agg #[.int .i64 (-1), .int .u64 0]) ∧ Below W.heap.size W w' :=
  call_as (timesW_any 4611686018427387904 (-4) (by decide) (by decide) W) (by rfl) fun e w' ⟨he, hb⟩ => ⟨he.trans (by rfl), hb⟩
set_option maxRecDepth 100000 in
theorem alive_text : textI 18446744073709551616 = [49, 56, 52, 52, 54, 55, 52, 52, 48, 55, 51, 55, 48, 57, 53, 53, 49, 54, 49, 54] := good_text (l := [49, 56, 52, 52, 54, 55, 52, 52, 48, 55, 51, 55, 48, 57, 53, 53, 49, 54, 49, 54]) (by rfl)
theorem alive_CX (W : World) (h : Pows W) : Calls Tryd.prog 26 #[.agg #[.int .i64 (1), .int .u64 0]] W fun e w' => e = .returned (.string ⟨#[49, 56, 52, 52, 54, 55, 52, 52, 48, 55, 51, 55, 48, 57, 53, 53, 49, 54, 49, 54]⟩) ∧ Below W.heap.size W w' :=
  call_as (textW_any 18446744073709551616 (by decide) W h) (by rfl) fun e w' ⟨S, he, hS, hb⟩ => ⟨by rw [he, bytes_same (S := S) (T := ⟨#[49, 56, 52, 52, 54, 55, 52, 52, 48, 55, 51, 55, 48, 57, 53, 53, 49, 54, 49, 54]⟩) (hS.trans alive_text)], hb⟩
theorem alive_CB (W : World) : Calls Tryd.prog 31 #[.agg #[.int .i64 (-2), .int .u64 18446744073709551615]] W (Copied 5 .u8 W (bytesI (-18446744073709551617))) := call_as (bytesW_any (-18446744073709551617) W) (by rfl) fun _ _ h => h
theorem alive_CK (v : Value) (W : World) (hl : Lst W W.heap.size .u8 v (bytesI (-18446744073709551617))) : Calls Tryd.prog 32 #[v] W fun e w' => e = .returned (.tuple #[.agg #[.int .i64 (-2), .int .u64 18446744073709551615], .bool true]) ∧ Below W.heap.size W w' := by
  have h := backW_raw v (bytesI (-18446744073709551617)) W hl (bytesI_len _) (bytesI_byte _)
  rw [bytesI_back (by decide)] at h
  exact call_as h rfl fun e w' ⟨he, hb⟩ => ⟨he.trans (by rfl), hb⟩
theorem alive_CU (w : World) : Calls Tryd.prog 23 #[.slice (some ⟨w.heap.size, 0, none⟩) 3 3] (w.alloc (.cells #[.int .i64 1, .int .i64 2, .int .i64 (-5)] 2)) fun e w' => e = .returned (.agg #[.int .i64 (-1), .int .u64 18446744073709551614]) ∧ Below (w.alloc (.cells #[.int .i64 1, .int .i64 2, .int .i64 (-5)] 2)).heap.size (w.alloc (.cells #[.int .i64 1, .int .i64 2, .int .i64 (-5)] 2)) w' := by
  have h := sumW_any (.slice (some ⟨w.heap.size, 0, none⟩) 3 3) [1, 2, -5] (w.alloc (.cells #[.int .i64 1, .int .i64 2, .int .i64 (-5)] 2)) (by rw [World.size_alloc]; exact Lst.new (k := .i64) (zs := [1, 2, -5]) w _ _ rfl) (by decide) (by decide)
  exact call_as h rfl fun e w' ⟨he, hb⟩ => ⟨he.trans (by rfl), hb⟩
end Go.Proofs.YtedojpblfmkjeaaDoor
