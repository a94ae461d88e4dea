/- The document's own honest readings: Honest of noonmarkref04, walked. -/
import Derived.Test.YtljgfallhnlebaaDriB
import Derived.Deep.RegionHeld3
import Derived.Deep.QuietTactic
import Derived.BigQuiet
namespace Go.Proofs.Ytljgfallhnlebaa
open Go.RowKit

theorem pair_self (r : Int) (p : Int × Int) : pairB r p p = true := by
  refine decide_eq_true (Or.inr ⟨Int.le_refl _, ?_⟩)
  rw [Int.sub_self, Int.sub_self]
  simp
theorem Gaps.hold {w : World} {A : Option Addr} {n c : Nat} {gs : List (Int × Int)} (h : Gaps w w.heap.size (.slice A n c) gs) (hn : 0 < gs.length) :
    ∃ ad, A = some ad ∧ ∀ W', Below w.heap.size w W' → ∀ k (hk : k < gs.length), W'.cell? (ad.add (k * 2)) = some (.int .i64 gs[k].1) ∧ W'.cell? ⟨(ad.add (k * 2)).block, (ad.add (k * 2)).off + 1, none⟩ = some (.int .i64 gs[k].2) := by
  obtain ⟨ad, e, hb, hcell⟩ := h.at_ hn
  refine ⟨ad, e, fun W' h' k hk => ?_⟩
  have c1 : _ = _ := (h'.cell (by rw [block_of_add]; exact hb)).trans (hcell k hk).1
  have c2 : _ = _ := (h'.cell (by rw [block_of_add]; exact hb)).trans (hcell k hk).2
  rw [add_succ] at c2
  exact ⟨c1, c2⟩
theorem honest_rate {r : Int} {gs : List (Int × Int)} (h : rateB r = false) : honestB r gs = false := by unfold honestB; rw [h]; rfl
theorem honest_time {r : Int} {gs : List (Int × Int)} {k : Nat} (hk : k < gs.length) (h : timeB gs[k] = false) : honestB r gs = false := by
  cases hh : honestB r gs with
  | false => rfl
  | true => rw [(honest_iff.1 hh).2.1 _ (List.getElem_mem hk)] at h; cases h
theorem honest_pair {r : Int} {gs : List (Int × Int)} {k l : Nat} (hk : k < gs.length) (hl : l < gs.length) (h : pairB r gs[k] gs[l] = false) : honestB r gs = false := by
  cases hh : honestB r gs with
  | false => rfl
  | true => rw [(honest_iff.1 hh).2.2 _ (List.getElem_mem hk) _ (List.getElem_mem hl)] at h; cases h
theorem honest_of {r : Int} {gs : List (Int × Int)} (h1 : rateB r = true) (h2 : ∀ k (hk : k < gs.length), timeB gs[k] = true) (h3 : ∀ k (hk : k < gs.length) l (hl : l < gs.length), pairB r gs[k] gs[l] = true) : honestB r gs = true := by
  refine honest_iff.2 ⟨rate_iff.1 h1, fun p hp => ?_, fun p hp q hq => ?_⟩
  · obtain ⟨k, hk, rfl⟩ := List.getElem_of_mem hp; exact h2 k hk
  · obtain ⟨k, hk, rfl⟩ := List.getElem_of_mem hp
    obtain ⟨l, hl, rfl⟩ := List.getElem_of_mem hq
    exact h3 k hk l hl
theorem time_no {a b : Int} (h : timeB (a, b) = false) : a < 0 ∨ (¬ a < 0 ∧ 4611686018427387903 < a) ∨ (¬ a < 0 ∧ ¬ 4611686018427387903 < a ∧ b < 0) ∨ (¬ a < 0 ∧ ¬ 4611686018427387903 < a ∧ ¬ b < 0 ∧ 4611686018427387903 < b) := by
  have h := of_decide_eq_false h
  dsimp only at h
  omega

set_option maxRecDepth 100000 in
set_option maxHeartbeats 8000000 in
theorem rHonest_any (r : Int) (v : Value) (gs : List (Int × Int)) (w : World) (hv : Gaps w w.heap.size v gs) (hn : gs.length ≤ 1000000) :
    Calls Try.prog 19 #[.int .i64 r, v] w fun e w' => e = .returned (.bool (honestB r gs)) ∧ Below w.heap.size w w' := by
  have CR := Lib.hid (rRate_any r)
  obtain ⟨A, c, rfl⟩ := hv.len
  have HV := Lib.hid hv
  clear hv
  cases hR : rateB r with
  | false =>
    have HS := Lib.hid (honest_rate (gs := gs) hR)
    rw [hR] at CR
    rw [HS.out]
    clear hR
    go_enter Try.func19, Try.ntmps19
    go_wp2_with fail
    refine (CR.out _).mono ?_; rintro e w1 ⟨rfl, rfl⟩
    go_wp2_with fail
    go_ret
    exact ⟨rfl, Below.refl _ _⟩
  | true =>
  have HR := Lib.hid hR
  rw [hR] at CR
  clear hR
  go_enter Try.func19, Try.ntmps19
  go_wp2_with fail
  refine (CR.out _).mono ?_; rintro e w1 ⟨rfl, rfl⟩
  clear CR
  go_wp2_with fail
  go_loopw [5] (fun i wr => ∃ k : Nat, k ≤ gs.length ∧ i = .int .i64 k ∧ Below w.heap.size w wr ∧ Hid (∀ j (hj : j < gs.length), j < k → timeB gs[j] = true)) (fun i _ => gs.length - (intOf i).toNat)
  case atStart => exact ⟨0, Nat.zero_le _, rfl, Below.refl _ _, Lib.hid fun j _ hj => absurd hj (by omega)⟩
  case round =>
    obtain ⟨k, hk, rfl, hB, hall⟩ := hrel
    by_cases hlt : k < gs.length
    · obtain ⟨ad, rfl, HC⟩ := HV.out.hold (by omega)
      obtain ⟨c1, c2⟩ := HC _ hB k hlt
      have HT := Lib.hid (honest_time (r := r) hlt)
      have hall' : Hid (timeB gs[k] = true → ∀ j (hj : j < gs.length), j < k + 1 → timeB gs[j] = true) := Lib.hid fun hle j hj hjk => by
        by_cases e : j = k
        · subst e; exact hle
        · exact hall.out j hj (by omega)
      have HG : Hid (gs[k] = (gs[k].1, gs[k].2)) := Lib.hid rfl
      rw [HG.out] at HT hall'
      clear HC hall HG
      generalize gs[k].1 = a at *
      generalize gs[k].2 = b at *
      have hB1 := ext_alloc hB (.cells #[.int .i64 a, .int .i64 b] 46)
      cases ht : timeB (a, b) with
      | true =>
        replace hall' := Lib.hid (hall'.out ht)
        obtain ⟨a1, a2, b1, b2⟩ := time_iff.1 ht
        dsimp only at a1 a2 b1 b2
        clear ht HT
        go_wp2_with fail
        go_roundw
        case rel => exact ⟨k + 1, hlt, by go_num, hB1, hall'⟩
        case measure => simp [intOf]; omega
      | false =>
        have HE := Lib.hid (HT.out ht)
        have hcs := time_no ht
        clear ht HT hall'
        rcases hcs with h | ⟨h, h'⟩ | ⟨h, h', h''⟩ | ⟨h, h', h'', h'''⟩
        all_goals
          go_wp2_with fail
          go_ret
          exact ⟨ret_bool HE.out.symm, hB1⟩
    · have HT : Hid (∀ j (hj : j < gs.length), timeB gs[j] = true) := Lib.hid fun j hj => hall.out j hj (by omega)
      clear hall hk
      go_wp2_with fail
      go_loopw [7] (fun i wr => ∃ k : Nat, k ≤ gs.length ∧ i = .int .i64 k ∧ Below w.heap.size w wr ∧ Hid (∀ j (hj : j < gs.length) l (hl : l < gs.length), j < k → pairB r gs[j] gs[l] = true)) (fun i _ => gs.length - (intOf i).toNat)
      case atStart => exact ⟨0, Nat.zero_le _, rfl, hB, Lib.hid fun j _ _ _ hj => absurd hj (by omega)⟩
      case round =>
        clear hB
        obtain ⟨k, hk, rfl, hB, hall⟩ := hrel
        by_cases hlt : k < gs.length
        · go_wp2_with fail
          go_loopw [8] (fun i wr => ∃ l : Nat, l ≤ gs.length ∧ i = .int .i64 l ∧ Below w.heap.size w wr ∧ Hid (∀ j (hj : j < gs.length), j < l → pairB r gs[k] gs[j] = true)) (fun i _ => gs.length - (intOf i).toNat)
          case atStart => exact ⟨0, Nat.zero_le _, rfl, hB, Lib.hid fun j _ hj => absurd hj (by omega)⟩
          case round =>
            clear hB
            obtain ⟨l, hl, rfl, hB, hrow⟩ := hrel
            by_cases hlt2 : l < gs.length
            · have hrow' : Hid (pairB r gs[k] gs[l] = true → ∀ j (hj : j < gs.length), j < l + 1 → pairB r gs[k] gs[j] = true) := Lib.hid fun hle j hj hjk => by
                by_cases e : j = l
                · subst e; exact hle
                · exact hrow.out j hj (by omega)
              by_cases e : k = l
              · subst e
                replace hrow' := Lib.hid (hrow'.out (pair_self _ _))
                clear hall hrow
                go_upto_region 15 with fail
                go_quiet (fail)
                go_wp2_with fail
                go_roundw
                case rel => exact ⟨k + 1, hlt, by go_num, ext_drewN hB _, hrow'⟩
                case measure => simp [intOf]; omega
              · have e1 : ((k : Int) != (l : Int)) = true := by simp; omega
                obtain ⟨ad, rfl, HC⟩ := HV.out.hold (by omega)
                have HC : Hid (∀ W', Below w.heap.size w W' → (W'.cell? (ad.add (k * 2)) = some (.int .i64 gs[k].1) ∧ W'.cell? ⟨(ad.add (k * 2)).block, (ad.add (k * 2)).off + 1, none⟩ = some (.int .i64 gs[k].2)) ∧ (W'.cell? (ad.add (l * 2)) = some (.int .i64 gs[l].1) ∧ W'.cell? ⟨(ad.add (l * 2)).block, (ad.add (l * 2)).off + 1, none⟩ = some (.int .i64 gs[l].2))) := Lib.hid fun W' h' => ⟨HC W' h' k hlt, HC W' h' l hlt2⟩
                have CP : Hid (∀ W, Calls Try.prog 29 #[.int .i64 r, .agg #[.int .i64 gs[k].1, .int .i64 gs[k].2], .agg #[.int .i64 gs[l].1, .int .i64 gs[l].2]] W fun e w' => e = .returned (.bool (pairB r gs[k] gs[l])) ∧ Below W.heap.size W w') := Lib.hid fun W => pair_any r _ _ _ _ W (rate_iff.1 HR.out) (HT.out k hlt) (HT.out l hlt2)
                have HP := Lib.hid (honest_pair (r := r) hlt hlt2)
                have i0 : (0 : Int) ≤ (k : Int) := by omega
                have i1 : (k : Int) < (gs.length : Int) := by omega
                have j0 : (0 : Int) ≤ (l : Int) := by omega
                have j1 : (l : Int) < (gs.length : Int) := by omega
                clear hall hrow e
                cases hp : pairB r gs[k] gs[l] with
                | true =>
                  replace hrow' := Lib.hid (hrow'.out hp)
                  rw [hp] at CP
                  clear hp HP
                  generalize gs[k].1 = a1 at HC CP
                  generalize gs[k].2 = a2 at HC CP
                  generalize gs[l].1 = b1 at HC CP
                  generalize gs[l].2 = b2 at HC CP
                  go_upto_region 15 with fail
                  go_region_held3 (fun w' => (w'.cell? (ad.add (k * 2)) = some (.int .i64 a1) ∧ w'.cell? ⟨(ad.add (k * 2)).block, (ad.add (k * 2)).off + 1, none⟩ = some (.int .i64 a2)) ∧ (w'.cell? (ad.add (l * 2)) = some (.int .i64 b1) ∧ w'.cell? ⟨(ad.add (l * 2)).block, (ad.add (l * 2)).off + 1, none⟩ = some (.int .i64 b2))) ((first | exact HC.out _ hB | exact HC.out _ (ext_drew hB)))
                    (first
                      | (go_at_call 29; refine (CP.out _).mono ?_; rintro e v0 ⟨rfl, hq⟩; have hB := ext_step hB ⟨hq.os, hq.tape, hq.output, hq.size, hq.block⟩; clear hq))
                  all_goals
                    go_wp2_with fail
                    go_roundw
                    case rel => exact ⟨l + 1, hlt2, by go_num, hB, hrow'⟩
                    case measure => simp [intOf]; omega
                | false =>
                  have HE := Lib.hid (HP.out hp)
                  rw [hp] at CP
                  clear hp HP hrow'
                  generalize gs[k].1 = a1 at HC CP
                  generalize gs[k].2 = a2 at HC CP
                  generalize gs[l].1 = b1 at HC CP
                  generalize gs[l].2 = b2 at HC CP
                  go_upto_region 15 with fail
                  go_region_held3 (fun w' => (w'.cell? (ad.add (k * 2)) = some (.int .i64 a1) ∧ w'.cell? ⟨(ad.add (k * 2)).block, (ad.add (k * 2)).off + 1, none⟩ = some (.int .i64 a2)) ∧ (w'.cell? (ad.add (l * 2)) = some (.int .i64 b1) ∧ w'.cell? ⟨(ad.add (l * 2)).block, (ad.add (l * 2)).off + 1, none⟩ = some (.int .i64 b2))) ((first | exact HC.out _ hB | exact HC.out _ (ext_drew hB)))
                    (first
                      | (go_at_call 29; refine (CP.out _).mono ?_; rintro e v0 ⟨rfl, hq⟩; have hB := ext_step hB ⟨hq.os, hq.tape, hq.output, hq.size, hq.block⟩; clear hq))
                  all_goals
                    go_wp2_with fail
                    go_ret
                    exact ⟨ret_bool HE.out.symm, hB⟩
            · have hall' : Hid (∀ j (hj : j < gs.length) l (hl : l < gs.length), j < k + 1 → pairB r gs[j] gs[l] = true) := Lib.hid fun j hj l hl hjk => by
                by_cases e : j = k
                · subst e; exact hrow.out l hl (by omega)
                · exact hall.out j hj l hl (by omega)
              clear hrow hall
              go_wp2_with fail
              go_roundw
              case rel => exact ⟨k + 1, hlt, by go_num, hB, hall'⟩
              case measure => simp [intOf]; omega
        · have HE := Lib.hid (honest_of HR.out HT.out fun k1 hk1 l1 hl1 => hall.out k1 hk1 l1 hl1 (by omega))
          clear hall
          go_wp2_with fail
          go_ret
          exact ⟨ret_bool HE.out.symm, hB⟩
end Go.Proofs.Ytljgfallhnlebaa
