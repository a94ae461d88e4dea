/- Are two lists of bytes the same? (SameBytes) -/
import Derived.Test.YteiilmnehdbdiaaGreatDoorRows
import Derived.Test.YteiilmnehdbdiaaGreatDoorMem
import Derived.WalkSpells
import Derived.WalkLawsBesides
import Derived.BigQuiet
namespace Go.Proofs.YteiilmnehdbdiaaGreatDoor
open Go.RowKit

set_option maxRecDepth 100000 in
set_option maxHeartbeats 1000000 in
theorem sameB_all (v u : Value) (zs ys : List Int) (w : World) (hv : Lst w w.heap.size .u8 v zs) (hu : Lst w w.heap.size .u8 u ys) (hn : zs.length ≤ 1000000) (hm : ys.length ≤ 1000000) :
    Calls Tryz.prog 18 #[v, u] w fun e w' => e = .returned (.bool (decide (zs = ys))) ∧ ∃ n, w.drewN n = w' := by
  obtain ⟨A, c, rfl, hc, hr⟩ := hv
  obtain ⟨A', c', rfl, hc', hr'⟩ := hu
  have HR := Lib.hid hr
  have HR' := Lib.hid hr'
  clear hr hr'
  by_cases hlen : zs.length = ys.length
  case neg =>
    have HE : Hid (decide (zs = ys) = false) := Lib.hid (decide_eq_false fun e => hlen (by rw [e]))
    have h1 : ((zs.length : Int) != (ys.length : Int)) = true := by rw [bne_iff_ne]; omega
    have h2 : ¬ (zs.length : Int) = (ys.length : Int) := by omega
    clear hlen
    go_enter Tryz.func18, Tryz.ntmps18
    go_wp2_with fail
    go_ret
    exact ⟨by rw [HE.out]; rfl, 0, rfl⟩
  rw [← hlen]
  have HL := Lib.hid hlen
  clear hlen
  have HE : Hid ((∀ j (h1 : j < zs.length) (h2 : j < ys.length), zs[j] = ys[j]) → decide (zs = ys) = true) := Lib.hid fun h => decide_eq_true (List.ext_getElem HL.out h)
  have HD : Hid (∀ j (h1 : j < zs.length) (h2 : j < ys.length), zs[j] ≠ ys[j] → decide (zs = ys) = false) := Lib.hid fun j h1 h2 h => decide_eq_false fun e => h (by subst e; rfl)
  generalize decide (zs = ys) = r at *
  go_enter Tryz.func18, Tryz.ntmps18
  go_wp2_with fail
  go_loopw [5] (fun i wr => ∃ k n : Nat, k ≤ zs.length ∧ i = .int .i64 k ∧ wr = w.drewN n ∧ Hid (∀ j (h1 : j < zs.length) (h2 : j < ys.length), j < k → zs[j] = ys[j])) (fun i _ => zs.length - (intOf i).toNat)
  case atStart => exact ⟨0, 0, Nat.zero_le _, rfl, rfl, Lib.hid fun j _ _ h => absurd h (Nat.not_lt_zero _)⟩
  case round =>
    obtain ⟨k, n, hk, rfl, rfl, hall⟩ := hrel
    by_cases hlt : k < zs.length
    · have hlt2 : k < ys.length := by have := HL.out; omega
      obtain ⟨ad, rfl, hb, hcell⟩ := HR.out (by omega)
      obtain ⟨ad', rfl, hb', hcell'⟩ := HR'.out (by omega)
      have c1 : (w.drewN n).cell? (ad.add k) = some (.int .u8 zs[k]) := hcell k hlt
      have c2 : (w.drewN n).cell? (ad'.add k) = some (.int .u8 ys[k]) := hcell' k hlt2
      have c3 : w.cell? (ad.add k) = some (.int .u8 zs[k]) := hcell k hlt
      have c4 : w.cell? (ad'.add k) = some (.int .u8 ys[k]) := hcell' k hlt2
      have HK : Hid (zs[k] = ys[k] → ∀ j (h1 : j < zs.length) (h2 : j < ys.length), j < k + 1 → zs[j] = ys[j]) := Lib.hid fun e j h1 h2 h3 => by
        by_cases ej : j = k
        · subst ej; exact e
        · exact hall.out j h1 h2 (by omega)
      have HN := Lib.hid (HD.out k hlt hlt2)
      have i0 : (0 : Int) ≤ (k : Int) := by omega
      have i1 : (k : Int) < (zs.length : Int) := by omega
      clear hcell hcell' hb hb' hall
      generalize zs[k] = z at *
      generalize ys[k] = y at *
      by_cases hzy : z = y
      · have e1 : (z != y) = false := by simpa using hzy
        replace HK := Lib.hid (HK.out hzy)
        clear HN
        subst hzy
        go_wp2_with fail
        go_quiet (fail)
        go_wp2_with fail
        go_roundw
        case rel => exact ⟨k + 1, _, hlt, by go_num, rfl, HK⟩
        case measure => simp [intOf]; omega
      · have e1 : (z != y) = true := by simpa using hzy
        replace HN := Lib.hid (HN.out hzy)
        clear HK
        clear hzy
        go_wp2_with fail
        go_quiet (fail)
        go_wp2_with fail
        go_ret
        exact ⟨by rw [HN.out]; rfl, n + nq, by rw [World.drewN_drewN]⟩
    · obtain rfl : k = zs.length := by omega
      have HT := Lib.hid (HE.out fun j h1 h2 => hall.out j h1 h2 h1)
      clear hall
      go_wp2_with fail
      go_ret
      exact ⟨by rw [HT.out]; rfl, n, rfl⟩
end Go.Proofs.YteiilmnehdbdiaaGreatDoor
