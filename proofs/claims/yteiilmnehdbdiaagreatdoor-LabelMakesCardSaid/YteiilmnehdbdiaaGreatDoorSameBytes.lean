/- Two lists that are the same, held against each other (SameBytes). -/
import Derived.Test.YteiilmnehdbdiaaGreatDoorRows
import Derived.Test.YteiilmnehdbdiaaGreatDoorMem
import Derived.WalkSpells
import Derived.WalkLawsBesides
import Derived.BigQuiet
namespace Go.Proofs.YteiilmnehdbdiaaGreatDoor
open Go.RowKit

set_option maxRecDepth 100000 in
set_option maxHeartbeats 1000000 in
theorem sameBytes_any (v u : Value) (zs : List Int) (w : World) (hv : Lst w w.heap.size .u8 v zs) (hu : Lst w w.heap.size .u8 u zs) (hn : zs.length ≤ 1000000) :
    Calls Tryz.prog 18 #[v, u] w fun e w' => e = .returned (.bool true) ∧ ∃ n, w.drewN n = w' := by
  obtain ⟨A, c, rfl, hc, hr⟩ := hv
  obtain ⟨A', c', rfl, hc', hr'⟩ := hu
  have HR := Lib.hid hr
  have HR' := Lib.hid hr'
  clear hr hr'
  go_enter Tryz.func18, Tryz.ntmps18
  go_wp2_with fail
  go_loopw [5] (fun i wr => ∃ k n : Nat, k ≤ zs.length ∧ i = .int .i64 k ∧ wr = w.drewN n) (fun i _ => zs.length - (intOf i).toNat)
  case atStart => exact ⟨0, 0, Nat.zero_le _, rfl, rfl⟩
  case round =>
    obtain ⟨k, n, hk, rfl, rfl⟩ := hrel
    by_cases hlt : k < zs.length
    · obtain ⟨ad, rfl, hb, hcell⟩ := HR.out (by omega)
      obtain ⟨ad', rfl, hb', hcell'⟩ := HR'.out (by omega)
      have c1 : (w.drewN n).cell? (ad.add k) = some (.int .u8 zs[k]) := hcell k hlt
      have c2 : (w.drewN n).cell? (ad'.add k) = some (.int .u8 zs[k]) := hcell' k hlt
      have c3 : w.cell? (ad.add k) = some (.int .u8 zs[k]) := hcell k hlt
      have c4 : w.cell? (ad'.add k) = some (.int .u8 zs[k]) := hcell' k hlt
      clear hcell hcell' hb hb'
      generalize zs[k] = z at *
      go_wp2_with fail
      go_quiet (fail)
      go_wp2_with fail
      go_roundw
      case rel => exact ⟨k + 1, _, hlt, by go_num, rfl⟩
      case measure => simp [intOf]; omega
    · go_wp2_with fail
      go_ret
      exact ⟨rfl, n, rfl⟩
end Go.Proofs.YteiilmnehdbdiaaGreatDoor
