/- Package crc: Concat, Seal, Open; walked. -/
import Derived.Test.YtckbkbfnddhpnaaCrcD
import Derived.Test.YtckbkbfnddhpnaaGrowB
import Derived.Test.YtckbkbfnddhpnaaEqualB
import Derived.BigQuiet
namespace Go.Proofs.Ytckbkbfnddhpnaa
open Go.RowKit

set_option maxRecDepth 100000 in
set_option maxHeartbeats 1000000 in
theorem concatB_any (v : Value) (ps : List (List Int)) (w : World) (hl : LstL w w.heap.size v ps) (hp : ps.length ≤ 1000000) (hz : ps.flatten.length ≤ 1000000) :
    Calls Try.prog 21 #[v] w (Copied 5 .u8 w ps.flatten) := by
  obtain ⟨i0, hi, hz0, hz1, hz2⟩ := info_parts byte_infoC
  obtain ⟨A, c, rfl⟩ := hl.len
  have HL := Lib.hid hl
  obtain ⟨fl, hfl⟩ : ∃ fl, Hid (fl = ps.flatten.length) := ⟨_, Lib.hid rfl⟩
  have CG := Lib.hid (growB_any fl w (by rw [hfl.out]; exact hz))
  clear hl
  go_enter Try.func21, Try.ntmps21
  go_wp2_with fail
  go_loop [3, 11] (fun n i => ∃ k m : Nat, k ≤ ps.length ∧ i = .int .i64 k ∧ n = .int .i64 m ∧ m ≤ 1000000 ∧ Hid (m = (ps.take k).flatten.length)) (fun _ i => ps.length - (intOf i).toNat)
  case atStart => exact ⟨0, 0, Nat.zero_le _, rfl, rfl, by decide, Lib.hid rfl⟩
  case round =>
    obtain ⟨k, m, hk, rfl, rfl, hm3, hm⟩ := hrel
    by_cases hlt : k < ps.length
    · obtain ⟨ad, u, rfl, hab, hcell, hu⟩ := HL.out.at_ hlt
      obtain ⟨Au, cu, rfl⟩ := hu.len
      have HN : Hid (m + ps[k].length = (ps.take (k + 1)).flatten.length) := Lib.hid (by rw [flat_next hlt, List.length_append, ← hm.out])
      have hmq : m + ps[k].length ≤ 1000000 := by have := flat_le (ps := ps) (k + 1); have := HN.out; omega
      have i0 : (0 : Int) ≤ (k : Int) := by omega
      have i1 : (k : Int) < (ps.length : Int) := by omega
      clear hu hab hm
      generalize ps[k].length = q at *
      have i2 : ¬ ((m : Int) + (q : Int) < 0) := by omega
      go_wp2_with fail
      go_round
      case rel => exact ⟨k + 1, m + q, hlt, by go_num, by go_num, by omega, HN⟩
      case measure => simp [intOf]; omega
    · obtain rfl : k = ps.length := by omega
      obtain rfl : m = fl := by have h := hm.out; rw [List.take_length] at h; exact h.trans hfl.out.symm
      clear hm
      have i1 : ¬ ((ps.length : Int) < (ps.length : Int)) := by omega
      go_wp2_with fail
      refine (CG.out).mono ?_; rintro e w1 ⟨u0, rfl, hO0, hB0⟩
      go_wp2_with fail
      go_loopw [6, 27] (fun o i wr => ∃ k : Nat, k ≤ ps.length ∧ i = .int .i64 k ∧ Owned 5 .u8 wr w.heap.size o (ps.take k).flatten ∧ Below w.heap.size w wr) (fun _ i _ => ps.length - (intOf i).toNat)
      case atStart => exact ⟨0, Nat.zero_le _, rfl, hO0, hB0⟩
      case round =>
        clear hO0 hB0
        obtain ⟨k, hk, rfl, hO, hB⟩ := hrel
        by_cases hlt : k < ps.length
        · obtain ⟨ad, u, rfl, hab, hcell, hu⟩ := HL.out.at_ hlt
          have c1 : wr.cell? (ad.add k) = some u := (hB.cell (by rw [block_of_add]; exact hab)).trans hcell
          obtain ⟨Au, cu, rfl⟩ := hu.len
          have HSrc := Lib.hid (hu.src (w' := wr) fun _ hp => hB.cell hp)
          have HN := Lib.hid (flat_next hlt)
          have hlen : (ps.take k).flatten.length + ps[k].length ≤ 1000000 := by
            have := flat_le (ps := ps) (k + 1)
            rw [HN.out, List.length_append] at this
            omega
          have j0 : (0 : Int) ≤ (k : Int) := by omega
          have j1 : (k : Int) < (ps.length : Int) := by omega
          clear hu hcell
          generalize ps[k] = p at *
          generalize (ps.take k).flatten = xs at *
          go_wp2_with (at_builtin; go_must (refine wpList_append_src _ rfl (.tmp 31) (.tmp 32) 23 rfl w.heap.size 5 i0 (.int .u8 0) Try.underlying23 hi hz0 hz1 1 hz2 rfl _ xs.length (xs.map (Value.int .u8)) rfl hO Au cu _ rfl HSrc.out (by unfold maxLen; omega) (by omega) hB.size ?_); intro v2 w2 hown2 hgrow2)
          obtain ⟨hO2, hbj⟩ := hO.join hB.size hown2 hgrow2
          rw [← HN.out] at hO2
          have hB2 := hB.trans hbj
          clear hown2 hgrow2 hbj hO hB c1
          go_roundw
          case rel => exact ⟨k + 1, hlt, by go_num, hO2, hB2⟩
          case measure => simp [intOf]; omega
        · obtain rfl : k = ps.length := by omega
          rw [List.take_length] at hO
          go_wp2_with fail
          go_ret
          exact ⟨_, rfl, hO, hB⟩

set_option maxRecDepth 100000 in
set_option maxHeartbeats 1000000 in
theorem seal7_any (v : Value) (ps : List (List Int)) (w : World) (hl : LstL w w.heap.size v ps) (hb : AllByte ps) (hp : ps.length ≤ 1000000) (hz : ps.flatten.length ≤ 1000000) :
    Calls Try.prog 15 #[v] w (Copied 5 .u8 w (sealI ps.flatten)) := by
  obtain ⟨i0, hi, hz0, hz1, hz2⟩ := info_parts byte_infoC
  have CC := Lib.hid (concatB_any v ps w hl hp hz)
  have CS : Hid (∀ w1, Below w.heap.size w w1 → Calls Try.prog 12 #[v] w1 fun e w' => e = .returned (.int .u32 (crcI ps.flatten)) ∧ w1 = w') := Lib.hid fun w1 h => sum7_any v ps w1 ((hl.below h).more h.size) hb hp hz
  obtain ⟨s0, s1⟩ := crcI_bd (flat_byte hb)
  have CW := Lib.hid fun w1 => written7_any (crcI ps.flatten) w1 s0 s1
  have HE : Hid (ps.flatten ++ tailI (crcI ps.flatten) = sealI ps.flatten) := Lib.hid rfl
  obtain ⟨A, c, rfl⟩ := hl.len
  clear hl hb
  have htl : (tailI (crcI ps.flatten)).length ≤ 4 := by rw [tailI_len]; exact Nat.le_refl _
  generalize tailI (crcI ps.flatten) = tl at *
  generalize crcI ps.flatten = s at *
  generalize sealI ps.flatten = se at *
  generalize ps.flatten = xs at *
  go_enter Try.func15, Try.ntmps15
  go_wp2_with fail
  refine (CC.out).mono ?_; rintro e w1 ⟨u1, rfl, hO1, hB1⟩
  go_wp2_with fail
  refine (CS.out w1 hB1).mono ?_; rintro e w2 ⟨rfl, rfl⟩
  go_wp2_with fail
  refine (CW.out w1).mono ?_; rintro e w3 ⟨u3, rfl, hO3, hB3⟩
  have hO4 := hO1.keep hB3
  have hB4 := hB1.trans (hB3.mono hB1.size)
  have hL3 := hO3.lst
  obtain ⟨A3, c3, rfl⟩ := hO3.val
  have HSrc := Lib.hid (hL3.src (w' := w3) fun _ _ => rfl)
  clear hO1 hB1 hO3 hL3
  go_wp2_with (at_builtin; go_must (refine wpList_append_src _ rfl (.tmp 4) (.tmp 7) 23 rfl w.heap.size 5 i0 (.int .u8 0) Try.underlying23 hi hz0 hz1 1 hz2 rfl _ xs.length (xs.map (Value.int .u8)) rfl hO4 A3 c3 _ rfl HSrc.out (by unfold maxLen; omega) (by omega) hB4.size ?_); intro v5 w5 hown5 hgrow5)
  obtain ⟨hO5, hbj⟩ := hO4.join hB4.size hown5 hgrow5
  rw [HE.out] at hO5
  have hB5 := hB4.trans hbj
  clear hown5 hgrow5 hbj hO4 hB4
  go_ret
  exact ⟨_, rfl, hO5, hB5⟩

theorem openI_cut {bs : List Int} (h4 : ¬ bs.length < 4) {n : Nat} (hn : bs.length = n + 4) : openI bs = if bs.drop n = tailI (crcI (bs.take n)) then (bs.take n, 0) else ([], 14) := by
  unfold openI
  rw [if_neg h4, show bs.length - 4 = n by omega]
  have e : (bs = sealI (bs.take n)) ↔ (bs.drop n = tailI (crcI (bs.take n))) := by
    unfold sealI
    constructor
    · intro h
      have h2 : bs.take n ++ bs.drop n = bs.take n ++ tailI (crcI (bs.take n)) := by rw [List.take_append_drop]; exact h
      exact List.append_cancel_left h2
    · intro h
      conv => lhs; rw [← List.take_append_drop n bs]
      rw [h]
  by_cases h : bs.drop n = tailI (crcI (bs.take n))
  · rw [if_pos h, if_pos (e.2 h)]
  · rw [if_neg h, if_neg (fun k => h (e.1 k))]

set_option maxRecDepth 100000 in
set_option maxHeartbeats 2000000 in
theorem open7_any (v : Value) (bs : List Int) (w : World) (hl : Lst w w.heap.size .u8 v bs) (hb : IsByte bs) (hn : bs.length ≤ 1000000) :
    Calls Try.prog 10 #[v] w fun e w' => ∃ u, e = .returned (.tuple #[u, .int .i64 (openI bs).2]) ∧ Lst w' w'.heap.size .u8 u (openI bs).1 ∧ Below w.heap.size w w' := by
  obtain ⟨A, c, rfl⟩ := hl.len
  by_cases h4 : bs.length < 4
  · have HE : Hid (openI bs = ([], 15)) := Lib.hid (if_pos h4)
    have h5 : (bs.length : Int) < 4 := by omega
    go_enter Try.func10, Try.ntmps10
    go_wp2_with fail
    go_ret2
    exact ⟨_, by rw [HE.out]; rfl, by rw [HE.out]; exact Lst.nil _ _ _, Below.refl _ _⟩
  · obtain ⟨n, hnn⟩ : ∃ n, bs.length = n + 4 := ⟨bs.length - 4, by omega⟩
    have HC := Lib.hid (openI_cut h4 hnn)
    have hlc := hl.cut (m := n) (by omega)
    have hlt : (bs.take n).length = n := by rw [List.length_take]; omega
    have hbt : IsByte (bs.take n) := fun c hc => hb c (List.mem_of_mem_take hc)
    have hbd : IsByte (bs.drop n) := fun c hc => hb c (List.mem_of_mem_drop hc)
    obtain ⟨s0, s1⟩ := crcI_bd hbt
    have HT := Lib.hid (tailI_byte s0 s1)
    have hcap : bs.length ≤ c := by obtain ⟨_, _, e, h, _⟩ := id hl; injection e with _ _ e; omega
    obtain ⟨ad, rfl⟩ : ∃ ad, A = some ad := by
      obtain ⟨A', c', e, _, hr⟩ := id hl
      injection e with e
      obtain ⟨ad, e2, _⟩ := hr (by omega)
      exact ⟨ad, e.trans e2⟩
    have hld := hl.tail_ (m := n) (by omega) (.slice (some (ad.add n)) (bs.length - n) (c - n)) (Or.inr ⟨by omega, ad, rfl, rfl⟩)
    have CS : Hid (∀ W u, Below w.heap.size w W → LstL W W.heap.size u [bs.take n] → Calls Try.prog 12 #[u] W fun e w' => e = .returned (.int .u32 (crcI (bs.take n))) ∧ W = w') := Lib.hid fun W u _ h => by
      have e : [bs.take n].flatten = bs.take n := by simp
      have := sum7_any u [bs.take n] W h (by intro p hp; rw [List.mem_singleton] at hp; subst hp; exact hbt) (by simp) (by rw [e]; omega)
      rwa [e] at this
    have CW := Lib.hid fun w1 => written7_any (crcI (bs.take n)) w1 s0 s1
    have CE : Hid (∀ W u, Below w.heap.size w W → Lst W W.heap.size .u8 u (tailI (crcI (bs.take n))) → Calls Try.prog 17 #[.slice (some (ad.add n)) (bs.length - n) (c - n), u] W fun e w' => e = .returned (.bool (decide (bs.drop n = tailI (crcI (bs.take n))))) ∧ W = w') := Lib.hid fun W u hB h => equalB_any _ u _ _ W ((hld.below hB).more hB.size) h hbd HT.out
    have CK : Hid (∀ W, Below w.heap.size w W → Calls Try.prog 19 #[.slice (some ad) n c] W (Copied 5 .u8 W (bs.take n))) := Lib.hid fun W hB => cloneB_any _ _ W ((hlc.below hB).more hB.size) (by omega)
    have HLC := Lib.hid hlc
    have hcap2 : (n : Int) ≤ (c : Int) := by omega
    have hl2 : (bs.length : Int) - 4 = (n : Int) := by omega
    have hbl : (n : Int) ≤ (bs.length : Int) := by omega
    have n0 : (0 : Int) ≤ (n : Int) := by omega
    have n4 : ¬ ((bs.length : Int) < 4) := by omega
    have hcn : ¬ c = n := by omega
    have hnb : n ≤ 1000000 := by omega
    clear hl hlc hb hbt hbd hld h4 hlt HT hnn
    generalize tailI (crcI (bs.take n)) = tl at *
    generalize crcI (bs.take n) = s at *
    generalize openI bs = oi at *
    go_enter Try.func10, Try.ntmps10
    go_wp2_with fail
    go_quiet (fail)
    have hB0 : Below w.heap.size w (w.drewN nq) := below_drewN (Below.refl _ _) nq
    have hB1 := hB0.alloc (Nat.le_refl _) (.cells #[.slice (some ad) n c] 23)
    have hLL := LstL.lits (w.drewN nq) 23 [.slice (some ad) n c] [bs.take n] rfl (fun j h1 h2 => by
      match j, h1, h2 with
      | 0, _, _ => exact HLC.out.below hB0) _ rfl _ _ (Lib.hid rfl) rfl
    go_wp2_with fail
    refine (CS.out _ _ hB1 hLL).mono ?_; rintro e w1 ⟨rfl, rfl⟩
    clear hLL
    have hsz := hB1.size
    generalize (w.drewN nq).alloc (.cells #[.slice (some ad) n c] 23) = W1 at *
    go_wp2_with fail
    refine (CW.out _).mono ?_; rintro e w3 ⟨u3, rfl, hO3, hB3⟩
    have hB4 := hB1.trans (hB3.mono hsz)
    have hL3 := hO3.lst
    clear hO3 hB3 hB1
    go_wp2_with fail
    refine (CE.out w3 u3 hB4 hL3).mono ?_; rintro e w5 ⟨rfl, rfl⟩
    clear hL3
    by_cases hq : bs.drop n = tl
    · have HE : Hid (oi = (bs.take n, 0)) := Lib.hid (by rw [HC.out, if_pos hq])
      have hd : decide (bs.drop n = tl) = true := decide_eq_true hq
      rw [hd]
      clear hq hd
      go_wp2_with fail
      refine (CK.out w3 hB4).mono ?_; rintro e w6 ⟨u6, rfl, hO6, hB6⟩
      go_wp2_with fail
      go_ret2
      exact ⟨_, by rw [HE.out]; rfl, by rw [HE.out]; exact hO6.lst, hB4.trans (hB6.mono hB4.size)⟩
    · have HE : Hid (oi = ([], 14)) := Lib.hid (by rw [HC.out, if_neg hq])
      have hd : decide (bs.drop n = tl) = false := decide_eq_false hq
      rw [hd]
      clear hq hd
      go_wp2_with fail
      go_ret2
      exact ⟨_, by rw [HE.out]; rfl, by rw [HE.out]; exact Lst.nil _ _ _, hB4⟩

/-- What law 7 asks of package crc. -/
theorem crcC : CrcC :=
  ⟨fun v ps w hl hb hp hz => (sum7_any v ps w hl hb hp hz).mono fun _ _ ⟨h, e⟩ => ⟨h, e ▸ Below.refl _ _⟩, seal7_any, open7_any⟩
end Go.Proofs.Ytckbkbfnddhpnaa
