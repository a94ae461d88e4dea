/- Package drift: Honest; the least rate found by halves (sort.Search over the closure), Least; what law 4 asks of package drift holds of this code. -/
import Derived.Test.YtljgfallhnlebaaDrfF
import Derived.Test.YtljgfallhnlebaaDriC
namespace Go.Proofs.Ytljgfallhnlebaa
open Go.RowKit

set_option maxRecDepth 100000 in
set_option maxHeartbeats 1000000 in
theorem dHonest_any (r : Int) (v : Value) (gs : List (Int × Int)) (w : World) (hv : Gaps w w.heap.size v gs) (hn : gs.length ≤ 1000000) :
    Calls Try.prog 15 #[.int .i64 r, v] w fun e w' => e = .returned (.bool (honestB r gs)) ∧ Below w.heap.size w w' := by
  have CO := Lib.hid (dOrdered_any v gs w hv hn)
  have CR := Lib.hid (dRate_any r)
  have HN := Lib.hid hn
  clear hv hn
  go_enter Try.func15, Try.ntmps15
  go_wp2_with fail
  refine (CO.out).mono ?_
  rintro e w1 ⟨hB, hs, h1, h2, h3, h⟩
  have HB := Lib.hid hB
  have E : Hid (honestB r gs = (rateB r && (orderedB hs && steadyB r hs))) := Lib.hid ((honest_perm h2).trans (honest_steady h1))
  rcases h with ⟨ho, rfl⟩ | ⟨ho, u, rfl, hG⟩
  · have Z : Hid (false = honestB r gs) := Lib.hid (by rw [E.out, ho]; cases rateB r <;> rfl)
    clear hB h1 h2 h3 ho E CR
    go_wp2_with fail
    go_ret
    exact ⟨ret_bool Z.out, HB.out⟩
  · rw [ho] at E
    cases tr : rateB r with
    | false =>
      have Z : Hid (false = honestB r gs) := Lib.hid (by rw [E.out, tr]; rfl)
      rw [tr] at CR
      clear hB h1 h2 h3 ho E hG tr
      go_wp2_with fail
      refine (CR.out _).mono ?_; rintro e w2 ⟨rfl, rfl⟩
      go_wp2_with fail
      go_ret
      exact ⟨ret_bool Z.out, HB.out⟩
    | true =>
      have Z : Hid (steadyB r hs = honestB r gs) := Lib.hid (by rw [E.out, tr]; rfl)
      have hr := rate_iff.1 tr
      have CS := Lib.hid (dSteady_any r u hs w1 hr.1 hr.2 hG (ordered_times ho) (by rw [h3]; exact HN.out))
      rw [tr] at CR
      generalize steadyB r hs = s at *
      clear hB h1 h2 h3 ho E hG tr hr
      go_wp2_with fail
      refine (CR.out _).mono ?_; rintro e w2 ⟨rfl, rfl⟩
      go_wp2_with fail
      refine (CS.out).mono ?_; rintro e w3 ⟨rfl, h⟩
      have HB3 := Lib.hid (ext_step HB.out h)
      clear h
      go_wp2_with fail
      go_ret
      exact ⟨ret_bool Z.out, HB3.out⟩

set_option maxRecDepth 100000 in
set_option maxHeartbeats 400000 in
theorem dLeast1_any (i : Int) (g : Nat) (u : Value) (hs : List (Int × Int)) (h0 : 0 ≤ i) (h1 : i ≤ 100000) (ht : ∀ p ∈ hs, timeB p = true) (hn : hs.length ≤ 1000000) (W : World) (hc : W.cell? ⟨g, 0, none⟩ = some u) (hG : Gaps W W.heap.size u hs) :
    Calls Try.prog 28 #[.int .i64 i, .pointer (some ⟨g, 0, none⟩)] W fun e w' => e = .returned (.bool (steadyB i hs)) ∧ Below W.heap.size W w' := by
  have CS := Lib.hid (dSteady_any i u hs W h0 h1 hG ht hn)
  obtain ⟨A, c, rfl⟩ := hG.len
  clear h0 h1 ht hn hG
  generalize steadyB i hs = s at *
  go_enter Try.func28, Try.ntmps28
  go_wp2_with fail
  refine (CS.out).mono ?_; rintro e w3 ⟨rfl, h⟩
  have HB := Lib.hid h
  clear h
  go_wp2_with fail
  go_ret
  exact ⟨rfl, HB.out⟩

/-- Where the search stands: rates below x aren't enough, y is, if it is a rate. -/
def HalfR (hs : List (Int × Int)) (x y : Int) : Prop := (∀ j, 0 ≤ j → j < x → steadyB j hs = false) ∧ (y ≤ 100000 → steadyB y hs = true)

set_option maxRecDepth 100000 in
set_option maxHeartbeats 2000000 in
theorem dSearch_any (g : Nat) (u : Value) (hs : List (Int × Int)) (h1 : SortedG hs) (ho : orderedB hs = true) (hn : hs.length ≤ 1000000) (W : World) (hc : W.cell? ⟨g, 0, none⟩ = some u) (hG : Gaps W W.heap.size u hs) :
    Calls Try.prog 27 #[.int .i64 100001, .func (.func 28) #[] #[.pointer (some ⟨g, 0, none⟩)]] W fun e w' => ∃ m : Int, e = .returned (.int .i64 m) ∧ 0 ≤ m ∧ m ≤ 100001 ∧ HalfR hs m m ∧ Below W.heap.size W w' := by
  have CF := Lib.hid fun (i : Int) (W' : World) (hB : Below W.heap.size W W') (h0 : 0 ≤ i) (h1 : i ≤ 100000) => dLeast1_any i g u hs h0 h1 (ordered_times ho) hn W' ((hB.cell (World.block_lt_of_cell? _ _ hc)).trans hc) ((hG.below hB).more hB.size)
  have HM : Hid (∀ r s : Int, 0 ≤ r → r ≤ s → s ≤ 100000 → steadyB r hs = true → steadyB s hs = true) := Lib.hid fun r s a b c d => steady_more h1 ho a b c d
  clear h1 ho hn hc hG
  go_enter Try.func27, Try.ntmps27
  go_wp2_with fail
  go_loopw [5, 6] (fun a b wr => ∃ x y : Int, a = .int .i64 x ∧ b = .int .i64 y ∧ 0 ≤ x ∧ x ≤ y ∧ y ≤ 100001 ∧ Below W.heap.size W wr ∧ Hid (HalfR hs x y)) (fun a b _ => (intOf b - intOf a).toNat)
  case atStart => exact ⟨0, 100001, rfl, rfl, by decide, by decide, by decide, Below.refl _ _, Lib.hid ⟨fun j a b => absurd a (by omega), fun h => absurd h (by decide)⟩⟩
  case round =>
    obtain ⟨x, y, rfl, rfl, hx, hxy, hy, hB, HH⟩ := hrel
    by_cases hlt : x < y
    · go_upto_region 4 with fail
      have hm1 : x ≤ (x + y) / 2 := by omega
      have hm2 : (x + y) / 2 < y := by omega
      generalize (x + y) / 2 = m at *
      have CS := Lib.hid (CF.out m wr hB (by omega) (by omega))
      cases ts : steadyB m hs with
      | false =>
        have z1 : ∀ j, 0 ≤ j → j < m + 1 → steadyB j hs = false := by
          intro j j0 j1
          cases tj : steadyB j hs with
          | false => rfl
          | true =>
            rw [HM.out j m j0 (by omega) (by omega) tj] at ts
            cases ts
        have Z : Hid (HalfR hs (m + 1) y) := Lib.hid ⟨z1, HH.out.2⟩
        clear z1
        rw [ts] at CS
        have HB := Lib.hid hB
        clear ts hB
        go_wp2_with fail
        refine (CS.out).mono ?_; rintro e w1 ⟨rfl, h⟩
        have HB1 := Lib.hid (ext_step HB.out h)
        clear h
        go_wp2_with fail
        go_roundw
        case rel => exact ⟨m + 1, y, by go_num, rfl, by omega, by omega, by omega, HB1.out, Z⟩
        case measure => simp [intOf]; omega
      | true =>
        have Z : Hid (HalfR hs x m) := Lib.hid ⟨HH.out.1, fun _ => ts⟩
        rw [ts] at CS
        have HB := Lib.hid hB
        clear ts hB
        go_wp2_with fail
        refine (CS.out).mono ?_; rintro e w1 ⟨rfl, h⟩
        have HB1 := Lib.hid (ext_step HB.out h)
        clear h
        go_wp2_with fail
        go_roundw
        case rel => exact ⟨x, m, rfl, rfl, by omega, by omega, by omega, HB1.out, Z⟩
        case measure => simp [intOf]; omega
    · obtain rfl : x = y := by omega
      go_wp2_with fail
      go_ret
      exact ⟨x, rfl, hx, hy, HH.out, hB⟩

set_option maxRecDepth 100000 in
set_option maxHeartbeats 1000000 in
theorem dLeast_any (v : Value) (gs : List (Int × Int)) (w : World) (hv : Gaps w w.heap.size v gs) (hn : gs.length ≤ 1000000) :
    Calls Try.prog 16 #[v] w fun e w' => NumB (leastI gs) e ∧ Below w.heap.size w w' := by
  have CO := Lib.hid (dOrdered_any v gs w hv hn)
  have HN := Lib.hid hn
  clear hv hn
  go_enter Try.func16, Try.ntmps16
  go_wp2_with fail
  refine (CO.out).mono ?_
  rintro e w1 ⟨hB, hs, h1, h2, h3, h⟩
  have HB := Lib.hid hB
  rcases h with ⟨ho, rfl⟩ | ⟨ho, u, rfl, hG⟩
  · have Z : Hid (leastI gs = (0, false)) := Lib.hid ((least_perm h2).trans (least_unordered h1 ho))
    clear hB h1 h2 h3 ho
    go_wp2_with fail
    go_ret2
    exact ⟨by rw [Z.out]; rfl, ext_alloc HB.out _⟩
  · have HG := Lib.hid ((hG.below (up1 w1 (.cells #[u] 28))).more (up1 w1 (.cells #[u] 28)).size)
    have CS := Lib.hid fun (hc : (w1.alloc (.cells #[u] 28)).cell? ⟨w1.heap.size, 0, none⟩ = some u) => dSearch_any w1.heap.size u hs h1 ho (by rw [h3]; exact HN.out) (w1.alloc (.cells #[u] 28)) hc HG.out
    have HB1 := Lib.hid (ext_alloc HB.out (.cells #[u] 28))
    have HH := Lib.hid (And.intro h1 (And.intro ho h2))
    obtain ⟨A, c, rfl⟩ := hG.len
    clear hB h1 h2 h3 ho hG
    go_wp2_with fail
    refine (CS.out (by simp [World.cell?_alloc_new])).mono ?_
    rintro e w2 ⟨m, rfl, m0, m1, hm, h⟩
    have HB2 := Lib.hid (ext_step HB1.out h)
    have Z : Hid (leastI gs = if m ≤ 100000 then (m, true) else (0, false)) := Lib.hid ((least_perm HH.out.2.2).trans (least_steady HH.out.1 HH.out.2.1 m0 m1 hm.1 hm.2))
    clear h hm CS HB1 HG
    by_cases hq : m ≤ 100000
    · rw [if_pos hq] at Z
      have hq' : ¬ 100000 < m := by omega
      go_wp2_with fail
      go_ret2
      exact ⟨by rw [Z.out]; rfl, HB2.out⟩
    · rw [if_neg hq] at Z
      have hq' : 100000 < m := by omega
      go_wp2_with fail
      go_ret2
      exact ⟨by rw [Z.out]; rfl, HB2.out⟩

theorem driftC : DriftC where
  low x r w hx hr := dLow_any x r hx hr w
  high x r w hx hr := dHigh_any x r hx hr w
  slack x r w hx hr := dSlack_any x r hx hr w
  honest r v gs w _ hv _ hn := dHonest_any r v gs w hv hn
  least v gs w hv _ hn := dLeast_any v gs w hv hn
end Go.Proofs.Ytljgfallhnlebaa
