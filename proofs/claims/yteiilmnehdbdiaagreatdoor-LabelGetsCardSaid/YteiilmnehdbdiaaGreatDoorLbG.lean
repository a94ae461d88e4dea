/- Package label: a series read, walked. -/
import Derived.Test.YteiilmnehdbdiaaGreatDoorLbF
import Derived.Test.YteiilmnehdbdiaaGreatDoorLabW
import Derived.Test.YteiilmnehdbdiaaGreatDoorCodZ
namespace Go.Proofs.YteiilmnehdbdiaaGreatDoor
open Go.RowKit

theorem Rd6.low_ {w w' : World} {g L U B : Nat} {bs : List Int} {e : Int} (h : Rd6 w g L U bs e) (hb : Below B w w') (hU : U ≤ B) : Rd6 w' g L U bs e := h.keep hb.size fun k _ hk => hb.block k (by omega)
theorem Rd6.away_ {w : World} {g L U : Nat} {bs : List Int} {e : Int} (h : Rd6 w g L U bs e) {p : Addr} (hp : U ≤ p.block) (u : Value) : Rd6 (w.setCell p u) g L U bs e := h.low_ (B := p.block) ((Below.refl _ w).setCell (Nat.le_refl _) u) hp
set_option maxRecDepth 100000 in
theorem labelW_info : (Tryz.prog.info? 45).map (fun i => (i.zero, i.size, i.bytes)) = some (some (.agg #[.string ByteArray.empty, .string ByteArray.empty]), 2, 32) := by kernel_rfl

set_option maxRecDepth 100000 in
set_option maxHeartbeats 4000000 in
theorem read8_any (g L U : Nat) (bs : List Int) (e : Int) (w : World) (hr : Rd6 w g L U bs e) (hb : IsByte bs) (hn : bs.length ≤ 1000000) :
    Calls Tryz.prog 27 #[ptrV g] w fun e' w' => ReadE 45 w (readE bs e) e' w' ∧ Rd6 w' g L U (rdAll bs e).2.1 (rdAll bs e).2.2 ∧ Aside g (g + 1) w w' := by
  obtain ⟨i0, hi, hz0, hz1, hz2⟩ := info_parts labelW_info
  have hgU : g < U ∧ U ≤ w.heap.size := by obtain ⟨v, _, _, _, h1, h2, h3⟩ := hr; exact ⟨h2, h3⟩
  have hgl : g < w.heap.size := by omega
  have aR := At2.new w (.string ByteArray.empty) (.slice none 0 0) 24
  have hB0 := grew1 w (.cells #[.string ByteArray.empty, .slice none 0 0] 24)
  have hR0 := hr.low_ hB0 hgU.2
  have hsz0 : w.heap.size + 1 ≤ (w.alloc (.cells #[.string ByteArray.empty, .slice none 0 0] 24)).heap.size := by simp
  have C1 := Lib.hid (text6_any g L U bs e 64 _ hR0 hb hn (by unfold Fits; omega))
  have HA0 := Lib.hid ((Aside.refl g (g + 1) w).step hB0)
  have HNM : Hid (bytS (stT bs e 64).1 = rdName bs e) := Lib.hid rfl
  have HCN : Hid (stC (stT bs e 64).2.1 (stT bs e 64).2.2 8 = rdCnt bs e) := Lib.hid rfl
  have HAL : Hid (rdL (rdCnt bs e).1.toNat (rdCnt bs e).2.1 (rdCnt bs e).2.2 = rdAll bs e) := Lib.hid rfl
  have HN64 : Hid ((rdName bs e).size ≤ 64) := Lib.hid (by rw [← HNM.out, bytS_size]; exact stT_len _ _)
  obtain ⟨hb1, hn1⟩ := byte_stT (e := e) (most := 64) hb hn
  have hcs := stC_small (stT bs e 64).2.1 (stT bs e 64).2.2 8 (by decide)
  have hc0 := stC_val hb1 (stT bs e 64).2.2 8
  have HB2 := Lib.hid (byte_stC (e := (stT bs e 64).2.2) (most := 8) hb1 hn1)
  have HQ : Hid (readE bs e = if (rdAll bs e).2.2 ≠ 0 then (ByteArray.empty, [], (rdAll bs e).2.2) else if IsRight (rdName bs e) (rdAll bs e).1 then (rdName bs e, (rdAll bs e).1, 0) else (ByteArray.empty, [], 10)) := Lib.hid rfl
  have HSZ : Hid (∀ l ∈ (rdAll bs e).1, l.1.size ≤ 64 ∧ l.2.size ≤ 64) := Lib.hid (rdL_size _ _ _)
  rw [HNM.out] at C1
  rw [HCN.out] at hcs hc0 HB2
  have C2 : Hid (∀ W, Rd6 W g L U (stT bs e 64).2.1 (stT bs e 64).2.2 → _) := Lib.hid fun W h => count6_any g L U (stT bs e 64).2.1 (stT bs e 64).2.2 8 W h hb1 hn1 (by unfold Fits; omega)
  rw [HCN.out] at C2
  generalize (stT bs e 64).2.1 = b1 at *
  generalize (stT bs e 64).2.2 = e1 at *
  generalize rdName bs e = nm at *
  generalize readE bs e = qe at *
  generalize rdAll bs e = al at *
  generalize rdCnt bs e = cn at *
  obtain ⟨cv, b2, e2⟩ := cn
  obtain ⟨N, rfl⟩ := Int.eq_ofNat_of_zero_le (show (0 : Int) ≤ cv from hc0)
  have hcs : (N : Int) ≤ 8 := hcs
  have HAL : Hid (rdL N b2 e2 = al) := HAL
  have HB2 : Hid (IsByte b2 ∧ b2.length ≤ 1000000) := HB2
  clear hr hR0 hb hn hb1 hn1 hc0 HNM HCN hB0
  have HAR := Lib.hid aR
  clear aR
  go_enter Tryz.func27, Tryz.ntmps27
  go_wp2_with fail
  refine (C1.out).mono ?_; rintro e3 w1 ⟨rfl, hS1, hA1⟩
  have aR1 := hA1.at2 HAR.out (Or.inr hgl)
  have aO1 := At2.new w1 (.string nm) (.slice none 0 0) 24
  have hB1 := grew1 w1 (.cells #[.string nm, .slice none 0 0] 24)
  have hS2 := hS1.low_ hB1 hS1.lt.2
  have aR2 := aR1.alloc (.cells #[.string nm, .slice none 0 0] 24)
  have HA2 := Lib.hid ((HA0.out.trans hA1).step hB1)
  have hsz1 : w.heap.size + 1 ≤ w1.heap.size := Nat.le_trans hsz0 hA1.size
  have C2 := Lib.hid (C2.out _ hS2)
  have HW1 := Lib.hid aO1
  clear hS1 hA1 hS2 hB1 aR1 HA0 HAR hsz0 aO1
  go_wp2_with fail
  refine (C2.out).mono ?_; rintro e4 w2 ⟨rfl, hS3, hA3⟩
  have hsz2 : w1.heap.size + 1 ≤ w2.heap.size := by have := hA3.size; simpa using this
  have aR3 := hA3.at2 aR2 (Or.inr hgl)
  have aO3 := hA3.at2 HW1.out (Or.inr (by omega))
  have HA3 := Lib.hid (HA2.out.trans hA3)
  clear aR2 HW1 hA3 HA2 C1 C2
  generalize hG : w1.heap.size = G at *
  have HG := Lib.hid hG
  clear hG
  go_wp2_with fail
  go_loopw [13] (fun i wr => ∃ (k : Nat) (o : Value) (acc : List Lab) (b : List Int) (er : Int), k ≤ N ∧ i = .int .i64 k ∧ Hid (al = (acc ++ (rdL (N - k) b er).1, (rdL (N - k) b er).2)) ∧ Hid (IsByte b ∧ b.length ≤ 1000000) ∧ acc.length = k ∧ Rd6 wr g L U b er ∧ At2 wr w.heap.size (.string ByteArray.empty) (.slice none 0 0) ∧ At2 wr G (.string nm) o ∧ OwnB 45 wr (G + 1) o acc ∧ Aside g (g + 1) w wr ∧ G + 1 ≤ wr.heap.size) (fun i _ => N - (intOf i).toNat)
  case atStart => exact ⟨0, _, [], b2, e2, Nat.zero_le _, rfl, Lib.hid (by rw [← HAL.out]; simp), HB2, rfl, hS3, aR3, aO3, OwnB.nil_ _ _ _, HA3.out, hsz2⟩
  case round =>
    clear hS3 aR3 aO3 HA3 hsz2
    obtain ⟨k, o, acc, b, er, hk, rfl, hal, hbb, hl, hS, aR, aO, hown, hA, hsz⟩ := hrel
    obtain ⟨Ao, co, rfl⟩ := hown.val
    by_cases hlt : k < N
    · have i1 : (k : Int) < (N : Int) := by omega
      obtain ⟨hb1, hn1⟩ := hbb.out
      obtain ⟨hb3, hn3⟩ := byte_stT (e := er) (most := 64) hb1 hn1
      have HB5 := Lib.hid (byte_stT (e := (stT b er 64).2.2) (most := 64) hb3 hn3)
      have HNX : Hid (al = ((acc ++ [(bytS (stT b er 64).1, bytS (stT (stT b er 64).2.1 (stT b er 64).2.2 64).1)]) ++ (rdL (N - (k + 1)) (stT (stT b er 64).2.1 (stT b er 64).2.2 64).2.1 (stT (stT b er 64).2.1 (stT b er 64).2.2 64).2.2).1, (rdL (N - (k + 1)) (stT (stT b er 64).2.1 (stT b er 64).2.2 64).2.1 (stT (stT b er 64).2.1 (stT b er 64).2.2 64).2.2).2)) := Lib.hid (by
        rw [hal.out, show N - k = (N - (k + 1)) + 1 by omega, rdL]; simp)
      have D1 := Lib.hid (text6_any g L U b er 64 _ hS hb1 hn1 (by unfold Fits; omega))
      have D2 : Hid (∀ W, Rd6 W g L U (stT b er 64).2.1 (stT b er 64).2.2 → _) := Lib.hid fun W h => text6_any g L U (stT b er 64).2.1 (stT b er 64).2.2 64 W h hb3 hn3 (by unfold Fits; omega)
      generalize stT (stT b er 64).2.1 (stT b er 64).2.2 64 = q2 at *
      generalize stT b er 64 = q1 at *
      obtain ⟨t1, b3, e3⟩ := q1
      obtain ⟨t2, b4, e4⟩ := q2
      generalize hp0 : bytS t1 = p0 at *
      generalize hp1 : bytS t2 = p1 at *
      clear hp0 hp1 hal hbb hb1 hn1 hb3 hn3 hS
      have hlk : acc.length ≤ 8 := by omega
      have HL := Lib.hid hl
      clear hl
      go_wp2_with fail
      refine (D1.out).mono ?_; rintro e5 w3 ⟨rfl, hS3, hA3⟩
      have aR3 := hA3.at2 aR (Or.inr hgl)
      have aO3 := hA3.at2 aO (Or.inr (by have := HG.out; omega))
      have hown3 := hown.aside hA3 (by have := HG.out; omega)
      have HA3 := Lib.hid (hA.trans hA3)
      have hsz3 := Nat.le_trans hsz hA3.size
      have D2 := Lib.hid (D2.out _ hS3)
      clear aR aO hown hA hsz hA3 hS3
      go_wp2_with fail
      refine (D2.out).mono ?_; rintro e6 w4 ⟨rfl, hS4, hA4⟩
      have aR4 := hA4.at2 aR3 (Or.inr hgl)
      have aO4 := hA4.at2 aO3 (Or.inr (by have := HG.out; omega))
      have hown4 := hown3.aside hA4 (by have := HG.out; omega)
      have HA4 := Lib.hid (HA3.out.trans hA4)
      have hsz4 := Nat.le_trans hsz3 hA4.size
      obtain ⟨o0, o1, o2, o3⟩ := id aO4
      clear aR3 aO3 hown3 HA3 hsz3 hA4
      go_wp2_with (at_builtin; go_must (refine wpList_append_cells _ rfl (.tmp 20) (.tmp 24) 22 rfl (G + 1) 45 i0 (.agg #[.string ByteArray.empty, .string ByteArray.empty]) 2 32 Tryz.underlying22 hi hz0 hz1 hz2 rfl (by decide) _ acc.length (cellsB acc) rfl (World.ownsRow.alloc hown4 _) _ 1 1 [.string p0, .string p1] rfl rfl (lab_src _ _ _ _ _ (Lib.hid rfl)) (two_strs _ _) (by unfold maxLen; omega) (by omega) (Nat.le_trans hsz4 (by simp)) ?_); intro v5 w5 hown5 hgrow5; obtain ⟨hown6, hq⟩ := hown4.grew hsz4 hown5 hgrow5; clear hown5 hgrow5 o0 o1 o2 o3; obtain ⟨A2, c2, rfl⟩ := hown6.val1; have aO6 := aO4.low hq (by omega); obtain ⟨o0, o1, o2, o3⟩ := id aO6)
      have aR6 := (aR4.low hq (by have := HG.out; omega)).other (b' := G) (by have := HG.out; omega) 1 (.slice A2 (acc.length + 1) c2)
      have hS6 := ((hS4.low_ hq (by have := HG.out; omega)).away_ (p := ⟨G, 1, none⟩) (by have := HG.out; dsimp only; omega) (.slice A2 (acc.length + 1) c2))
      have HA6 := Lib.hid ((HA4.out.belowStep hq (by have := HG.out; omega)).putNew (p := ⟨G, 1, none⟩) (by have := HG.out; dsimp only; omega) (.slice A2 (acc.length + 1) c2))
      go_roundw
      case rel => exact ⟨k + 1, _, acc ++ [(p0, p1)], b4, e4, hlt, by go_num, HNX, HB5, by rw [List.length_append, HL.out]; rfl, hS6, aR6, aO6.set1 _, hown6.away (p := ⟨G, 1, none⟩) (by dsimp only; omega) _, HA6.out, by have := hq.size; simp; omega⟩
      case measure => simp [intOf]; omega
    · obtain rfl : k = N := by omega
      have hal : Hid (al = (acc, b, er)) := Lib.hid (by rw [hal.out, Nat.sub_self, rdL]; simp)
      have hl8 : acc.length ≤ 8 := by omega
      clear hl
      obtain ⟨r0, r1, r2, r3⟩ := id aR
      have HS := Lib.hid hS
      have hGw : w.heap.size < G := by have := HG.out; omega
      have CE := Lib.hid (err6_any g L U b er _ hS)
      clear hS
      go_wp2_with fail
      refine (CE.out).mono ?_; rintro e7 w7 ⟨rfl, rfl⟩
      by_cases he : er = 0
      · subst he
        have LA : Hid (Labs _ _ (.slice Ao acc.length co) acc) := Lib.hid hown.labs
        have CRr := Lib.hid (right8_any nm _ acc _ LA.out (by have := HN64.out; omega) (by omega) fun l h => by
          have := HSZ.out l (by rw [hal.out]; exact h)
          omega)
        obtain ⟨o0, o1, o2, o3⟩ := id aO
        by_cases hR : IsRight nm acc
        · have hE : Hid (qe = (nm, acc, 0)) := Lib.hid (by rw [HQ.out, hal.out]; rw [if_neg (by simp), if_pos hR])
          rw [decide_eq_true hR] at CRr
          clear hR
          go_wp2_with fail
          refine (CRr.out).mono ?_; rintro e6 w4 ⟨rfl, hq⟩
          have aR4 := aR.below hq
          have aO4 := aO.below hq
          have hown4 := hown.below hq
          have HS4 := Lib.hid (HS.out.low_ hq HS.out.lt.2)
          have HA4 := Lib.hid (hA.belowStep hq (by have := hA.size; omega))
          have hsz4 := Nat.le_trans hsz hq.size
          clear r0 r1 r2 r3 o0 o1 o2 o3
          obtain ⟨r0, r1, r2, r3⟩ := id aR4
          obtain ⟨o0, o1, o2, o3⟩ := id aO4
          have HF := Lib.hid ((aR4.set0 (.string nm)).set1 (.slice Ao acc.length co))
          have HGo := Lib.hid (((hown4.away (p := ⟨w.heap.size, 0, none⟩) (by dsimp only; omega) (.string nm)).away (p := ⟨w.heap.size, 1, none⟩) (by dsimp only; omega) (.slice Ao acc.length co)).less (show w.heap.size ≤ G + 1 by omega))
          have HS5 := Lib.hid ((HS4.out.away_ (p := ⟨w.heap.size, 0, none⟩) (by dsimp only; omega) (.string nm)).away_ (p := ⟨w.heap.size, 1, none⟩) (by dsimp only; omega) (.slice Ao acc.length co))
          have HA5 := Lib.hid ((HA4.out.putNew (p := ⟨w.heap.size, 0, none⟩) (Nat.le_refl _) (.string nm)).putNew (p := ⟨w.heap.size, 1, none⟩) (Nat.le_refl _) (.slice Ao acc.length co))
          go_wp2_with fail
          have z0 := HF.out.c0
          have z1 := HF.out.c1
          exact bodyPost_ret (v := .tuple #[.agg #[.string nm, .slice Ao acc.length co], .int .i64 0]) (by simp [results, Tryz.results27, go_sem, z0, z1]) rfl ⟨by rw [hE.out]; exact ⟨_, rfl, HGo.out⟩, by rw [hal.out]; exact HS5.out, HA5.out⟩
        · have hE : Hid (qe = (ByteArray.empty, [], 10)) := Lib.hid (by rw [HQ.out, hal.out]; rw [if_neg (by simp), if_neg hR])
          rw [decide_eq_false hR] at CRr
          clear hR
          go_wp2_with fail
          refine (CRr.out).mono ?_; rintro e6 w4 ⟨rfl, hq⟩
          have aR4 := aR.below hq
          have HS4 := Lib.hid (HS.out.low_ hq HS.out.lt.2)
          have HA4 := Lib.hid (hA.belowStep hq (by have := hA.size; omega))
          clear r0 r1 r2 r3 o0 o1 o2 o3
          obtain ⟨r0, r1, r2, r3⟩ := id aR4
          have HF := Lib.hid ((aR4.set0 (.string ByteArray.empty)).set1 (.slice none 0 0))
          have HS5 := Lib.hid ((HS4.out.away_ (p := ⟨w.heap.size, 0, none⟩) (by dsimp only; omega) (.string ByteArray.empty)).away_ (p := ⟨w.heap.size, 1, none⟩) (by dsimp only; omega) (.slice none 0 0))
          have HA5 := Lib.hid ((HA4.out.putNew (p := ⟨w.heap.size, 0, none⟩) (Nat.le_refl _) (.string ByteArray.empty)).putNew (p := ⟨w.heap.size, 1, none⟩) (Nat.le_refl _) (.slice none 0 0))
          go_wp2_with fail
          have z0 := HF.out.c0
          have z1 := HF.out.c1
          exact bodyPost_ret (v := .tuple #[.agg #[.string ByteArray.empty, .slice none 0 0], .int .i64 10]) (by simp [results, Tryz.results27, go_sem, r0, r1]; rfl) rfl ⟨by rw [hE.out]; exact ⟨_, rfl, OwnB.nil_ _ _ _⟩, by rw [hal.out]; exact HS5.out, HA5.out⟩
      · have hE : Hid (qe = (ByteArray.empty, [], er)) := Lib.hid (by rw [HQ.out, hal.out]; rw [if_pos he])
        have he1 : (er != 0) = true := by simpa using he
        have he2 : (er == 0) = false := by simpa using he
        clear he
        have HF := Lib.hid ((aR.set0 (.string ByteArray.empty)).set1 (.slice none 0 0))
        have HS5 := Lib.hid ((HS.out.away_ (p := ⟨w.heap.size, 0, none⟩) (by dsimp only; omega) (.string ByteArray.empty)).away_ (p := ⟨w.heap.size, 1, none⟩) (by dsimp only; omega) (.slice none 0 0))
        have HA5 := Lib.hid ((hA.putNew (p := ⟨w.heap.size, 0, none⟩) (Nat.le_refl _) (.string ByteArray.empty)).putNew (p := ⟨w.heap.size, 1, none⟩) (Nat.le_refl _) (.slice none 0 0))
        go_wp2_with fail
        have z0 := HF.out.c0
        have z1 := HF.out.c1
        exact bodyPost_ret (v := .tuple #[.agg #[.string ByteArray.empty, .slice none 0 0], .int .i64 er]) (by simp [results, Tryz.results27, go_sem, r0, r1]; rfl) rfl ⟨by rw [hE.out]; exact ⟨_, rfl, OwnB.nil_ _ _ _⟩, by rw [hal.out]; exact HS5.out, HA5.out⟩
end Go.Proofs.YteiilmnehdbdiaaGreatDoor
