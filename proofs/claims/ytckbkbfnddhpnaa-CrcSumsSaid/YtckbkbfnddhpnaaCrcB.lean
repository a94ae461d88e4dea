/- The document's opening of sealed bytes, walked. -/
import Derived.Test.YtckbkbfnddhpnaaCrcA
import Derived.BigQuiet
namespace Go.Proofs.Ytckbkbfnddhpnaa
open Go.RowKit

theorem openI_same {bs : List Int} (h4 : ¬ bs.length < 4) (h : ∀ j (h1 : j < bs.length) (h2 : j < (sealI (bs.take (bs.length - 4))).length), bs.length - 4 ≤ j → (sealI (bs.take (bs.length - 4)))[j] = bs[j]) : openI bs = (bs.take (bs.length - 4), 0) := by
  have hl : (sealI (bs.take (bs.length - 4))).length = bs.length := by rw [sealI_len, List.length_take]; omega
  have e : bs = sealI (bs.take (bs.length - 4)) := by
    apply List.ext_getElem hl.symm
    intro j h1 h2
    by_cases hj : bs.length - 4 ≤ j
    · exact (h j h1 h2 hj).symm
    · have e2 : ∀ l : List Int, l = bs.take (bs.length - 4) ++ tailI (crcI (bs.take (bs.length - 4))) → ∀ hk : j < l.length, bs[j] = l[j] := fun l hl hk => by
        subst hl
        rw [List.getElem_append_left (by rw [List.length_take]; omega), List.getElem_take]
      exact e2 _ rfl h2
  unfold openI
  rw [if_neg h4, if_pos e]
theorem openI_diff {bs : List Int} (h4 : ¬ bs.length < 4) {j : Nat} (h1 : j < bs.length) (h2 : j < (sealI (bs.take (bs.length - 4))).length) (h : (sealI (bs.take (bs.length - 4)))[j] ≠ bs[j]) : openI bs = ([], 14) := by
  unfold openI
  rw [if_neg h4, if_neg]
  intro e
  apply h
  have e2 : ∀ l : List Int, l = bs → ∀ hk : j < l.length, l[j] = bs[j] := fun l hl hk => by subst hl; rfl
  exact e2 _ e.symm h2

set_option maxRecDepth 100000 in
set_option maxHeartbeats 4000000 in
theorem rCrcOpen_any (v : Value) (bs : List Int) (w : World) (hl : Lst w w.heap.size .u8 v bs) (hb : IsByte bs) (hn : bs.length ≤ 1000000) :
    Calls Try.prog 11 #[v] w fun e w' => ∃ u, e = .returned (.tuple #[u, .int .i64 (openI bs).2]) ∧ Lst w' w'.heap.size .u8 u (openI bs).1 ∧ Below w.heap.size w w' := by
  obtain ⟨A, c, rfl⟩ := hl.len
  by_cases h4 : bs.length < 4
  · have HE : Hid (openI bs = ([], 15)) := Lib.hid (if_pos h4)
    have h5 : (bs.length : Int) - 4 < 0 := by omega
    go_enter Try.func11, Try.ntmps11
    go_wp2_with fail
    go_ret2
    exact ⟨_, by rw [HE.out]; rfl, by rw [HE.out]; exact Lst.nil _ _ _, Below.refl _ _⟩
  · obtain ⟨n, hnn⟩ : ∃ n, bs.length = n + 4 := ⟨bs.length - 4, by omega⟩
    have hlc := hl.cut (m := n) (by omega)
    have hlt : (bs.take n).length = n := by rw [List.length_take]; omega
    have CS := Lib.hid (rCrcSeal_any _ (bs.take n) w hlc (fun c hc => hb c (List.mem_of_mem_take hc)) (by omega))
    have hcap : bs.length ≤ c := by obtain ⟨_, _, e, h, _⟩ := id hl; injection e with _ _ e; omega
    have hcap2 : (n : Int) ≤ (c : Int) := by omega
    have hl2 : (bs.length : Int) - 4 = (n : Int) := by omega
    have n0 : (0 : Int) ≤ (n : Int) := by omega
    have hsl : (sealI (bs.take n)).length = n + 4 := by rw [sealI_len, hlt]
    have hst : (sealI (bs.take n)).take n = bs.take n := by
      unfold sealI
      rw [List.take_append, hlt, Nat.sub_self, List.take_zero, List.append_nil, List.take_of_length_le (by omega)]
    have HS : Hid (∀ j (h1 : j < bs.length) (h2 : j < (sealI (bs.take n)).length), (sealI (bs.take n))[j] ≠ bs[j] → openI bs = ([], 14)) := Lib.hid fun j h1 h2 h => by
      have e : bs.length - 4 = n := by omega
      have := openI_diff h4 (j := j) h1 (by rw [e]; exact h2)
      simp only [e] at this
      exact this h
    have HT : Hid ((∀ j (h1 : j < bs.length) (h2 : j < (sealI (bs.take n)).length), n ≤ j → (sealI (bs.take n))[j] = bs[j]) → openI bs = (bs.take n, 0)) := Lib.hid fun h => by
      have e : bs.length - 4 = n := by omega
      have := openI_same h4
      simp only [e] at this
      exact this h
    have HL := Lib.hid hl
    clear hl hlc h4 hb hlt
    generalize sealI (bs.take n) = sl at *
    go_enter Try.func11, Try.ntmps11
    go_wp2_with fail
    refine (CS.out).mono ?_; rintro e w1 ⟨u, rfl, hO, hB⟩
    have HU := Lib.hid hO.lst
    obtain ⟨A1, c1, rfl⟩ := hO.val
    have hcp1 : sl.length ≤ c1 := by obtain ⟨_, _, e, h, _⟩ := HU.out; injection e with _ _ e; omega
    have hcp2 : (n : Int) ≤ (c1 : Int) := by omega
    have HLb := Lib.hid ((HL.out.below hB))
    clear CS hO
    go_wp2_with fail
    go_loopw [6] (fun i wr => ∃ k m : Nat, n ≤ k ∧ k ≤ n + 4 ∧ i = .int .i64 k ∧ wr = w1.drewN m ∧ Hid (∀ j (h1 : j < bs.length) (h2 : j < sl.length), n ≤ j → j < k → sl[j] = bs[j])) (fun i _ => n + 4 - (intOf i).toNat)
    case atStart => exact ⟨n, 0, Nat.le_refl _, by omega, by go_num, rfl, Lib.hid fun j _ _ h1 h2 => absurd h1 (by omega)⟩
    case round =>
      obtain ⟨k, m, hk, hk4, rfl, rfl, hall⟩ := hrel
      by_cases hlt : k < n + 4
      · obtain ⟨ad, rfl, hab, hcell⟩ : ∃ ad, A = some ad ∧ ad.block < w.heap.size ∧ w1.cell? (ad.add k) = some (.int .u8 (bs[k]'(by omega))) := by
          obtain ⟨A', c', e, _, hr⟩ := HLb.out
          obtain ⟨ad, rfl, hb, hc⟩ := hr (by omega)
          injection e with e
          exact ⟨ad, e, hb, hc k (by omega)⟩
        obtain ⟨ad1, rfl, hab1, hcell1⟩ : ∃ ad, A1 = some ad ∧ ad.block < w1.heap.size ∧ w1.cell? (ad.add k) = some (.int .u8 (sl[k]'(by omega))) := by
          obtain ⟨A', c', e, _, hr⟩ := HU.out
          obtain ⟨ad, rfl, hb, hc⟩ := hr (by omega)
          injection e with e
          exact ⟨ad, e, hb, hc k (by omega)⟩
        have x1 : (w1.drewN m).cell? (ad.add k) = some (.int .u8 (bs[k]'(by omega))) := hcell
        have x2 : (w1.drewN m).cell? (ad1.add k) = some (.int .u8 (sl[k]'(by omega))) := hcell1
        have HD := Lib.hid (HS.out k (by omega) (by omega))
        have HK : Hid ((sl[k]'(by omega)) = (bs[k]'(by omega)) → ∀ j (h1 : j < bs.length) (h2 : j < sl.length), n ≤ j → j < k + 1 → sl[j] = bs[j]) := Lib.hid fun e j h1 h2 h3 h4 => by
          by_cases ej : j = k
          · subst ej; exact e
          · exact hall.out j h1 h2 h3 (by omega)
        have i0 : (0 : Int) ≤ (k : Int) := by omega
        have i1 : (k : Int) < (bs.length : Int) := by omega
        have i2 : (k : Int) < (sl.length : Int) := by omega
        have i3 : (k : Int) < (n : Int) + 4 := by omega
        clear hab hab1 hall
        generalize (bs[k]'(by omega)) = x at *
        generalize (sl[k]'(by omega)) = y at *
        by_cases hxy : y = x
        · have e1 : (y != x) = false := by simpa using hxy
          replace HK := Lib.hid (HK.out hxy)
          clear hxy HD
          go_wp2_with fail
          go_quiet (fail)
          go_wp2_with fail
          go_roundw
          case rel => exact ⟨k + 1, _, by omega, by omega, by go_num, rfl, HK⟩
          case measure => simp [intOf]; omega
        · have e1 : (y != x) = true := by simpa using hxy
          replace HD := Lib.hid (HD.out hxy)
          clear hxy HK
          go_wp2_with fail
          go_quiet (fail)
          go_wp2_with fail
          go_ret2
          exact ⟨_, by rw [HD.out]; rfl, by rw [HD.out]; exact Lst.nil _ _ _, below_drewN (below_drewN hB _) _⟩
      · obtain rfl : k = n + 4 := by omega
        have HE := Lib.hid (HT.out fun j h1 h2 h3 => hall.out j h1 h2 h3 (by omega))
        have hcut := (HU.out.cut (m := n) (by omega))
        rw [hst] at hcut
        have i3 : ¬ (((n + 4 : Nat) : Int)) < (n : Int) + 4 := by omega
        have i4 : (((n + 4 : Nat) : Int)) = (n : Int) + 4 := by omega
        clear hall
        go_wp2_with fail
        go_ret2
        exact ⟨_, by rw [HE.out]; rfl, by rw [HE.out]; exact hcut, below_drewN hB _⟩
end Go.Proofs.Ytckbkbfnddhpnaa
