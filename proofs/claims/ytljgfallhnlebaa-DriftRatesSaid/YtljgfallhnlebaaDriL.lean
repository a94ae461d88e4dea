/- The document's own least rate: Least of noonmarkref04, walked. -/
import Derived.Test.YtljgfallhnlebaaDriH
namespace Go.Proofs.Ytljgfallhnlebaa
open Go.RowKit

/-- What is answered: a number and whether there is one. -/
def NumB (p : Int × Bool) (e : Ending) : Prop := e = .returned (.tuple #[.int .i64 p.1, .bool p.2])

set_option maxRecDepth 100000 in
set_option maxHeartbeats 4000000 in
theorem rLeast_any (v : Value) (gs : List (Int × Int)) (w : World) (hv : Gaps w w.heap.size v gs) (hn : gs.length ≤ 1000000) :
    Calls Try.prog 17 #[v] w fun e w' => NumB (leastI gs) e ∧ Below w.heap.size w w' := by
  have CH := Lib.hid fun r W (h : Gaps W W.heap.size v gs) => rHonest_any r v gs W h hn
  have HV := Lib.hid hv
  obtain ⟨A, c, rfl⟩ := hv.len
  clear hv hn
  have C0 := Lib.hid (CH.out 100000 w HV.out)
  cases h0 : honestB 100000 gs with
  | false =>
    have HS := Lib.hid (leastI_none h0)
    rw [h0] at C0
    clear h0 CH
    go_enter Try.func17, Try.ntmps17
    go_wp2_with fail
    refine (C0.out).mono ?_; rintro e w1 ⟨rfl, h⟩
    go_wp2_with fail
    go_ret2
    exact ⟨by rw [HS.out]; rfl, h⟩
  | true =>
    have H0 := Lib.hid h0
    rw [h0] at C0
    clear h0
    go_enter Try.func17, Try.ntmps17
    go_wp2_with fail
    refine (C0.out).mono ?_; rintro e w1 ⟨rfl, hB1⟩
    clear C0
    go_wp2_with fail
    go_loopw [4, 5] (fun i j wr => ∃ lo hi : Int, 0 ≤ lo ∧ lo ≤ hi ∧ hi ≤ 100000 ∧ i = .int .i64 lo ∧ j = .int .i64 hi ∧ Below w.heap.size w wr ∧ Hid (honestB hi gs = true) ∧ Hid (∀ m, 0 ≤ m → m < lo → honestB m gs = false)) (fun i j _ => (intOf j - intOf i).toNat)
    case atStart => exact ⟨0, 100000, by omega, by omega, by omega, rfl, rfl, hB1, H0, Lib.hid fun m h1 h2 => by omega⟩
    case round =>
      clear hB1
      obtain ⟨lo, hi, l0, l1, l2, rfl, rfl, hB, hh, hlo⟩ := hrel
      by_cases hlt : lo < hi
      · have hd : (lo + hi) / 2 < hi ∧ lo ≤ (lo + hi) / 2 := by omega
        obtain ⟨mid, hm⟩ : ∃ mid, (lo + hi) / 2 = mid := ⟨_, rfl⟩
        rw [hm] at hd
        obtain ⟨d1, d2⟩ := hd
        have CM := Lib.hid (CH.out mid _ ((HV.out.below hB).more hB.size))
        cases hq : honestB mid gs with
        | true =>
          have HQ := Lib.hid hq
          rw [hq] at CM
          clear hq
          go_wp2_with fail
          refine (CM.out).mono ?_; rintro e w2 ⟨rfl, h⟩
          replace hB := ext_step hB h
          go_wp2_with fail
          go_roundw
          case rel => exact ⟨lo, mid, l0, d2, by omega, rfl, rfl, hB, HQ, hlo⟩
          case measure => simp [intOf]; omega
        | false =>
          have hlo' : Hid (∀ m, 0 ≤ m → m < mid + 1 → honestB m gs = false) := Lib.hid fun m h1 h2 => by
            cases hb : honestB m gs with
            | false => rfl
            | true =>
              rw [honest_more (show m ≤ mid by omega) (by omega) hb] at hq
              cases hq
          rw [hq] at CM
          clear hq hlo
          go_wp2_with fail
          refine (CM.out).mono ?_; rintro e w2 ⟨rfl, h⟩
          replace hB := ext_step hB h
          go_wp2_with fail
          go_roundw
          case rel => exact ⟨mid + 1, hi, by omega, by omega, l2, rfl, rfl, hB, hh, hlo'⟩
          case measure => simp [intOf]; omega
      · obtain rfl : lo = hi := by omega
        have HS := Lib.hid (leastI_some l0 l2 hh.out hlo.out)
        go_wp2_with fail
        go_ret2
        exact ⟨by rw [HS.out]; rfl, hB⟩
end Go.Proofs.Ytljgfallhnlebaa
