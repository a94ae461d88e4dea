/- noonmarkref08's Read, walked. -/
import Derived.Test.YteiilmnehdbdiaaGreatDoorLabR
import Derived.Test.YteiilmnehdbdiaaGreatDoorLabF
import Derived.Test.YteiilmnehdbdiaaGreatDoorLabE
import Derived.Test.YteiilmnehdbdiaaGreatDoorCodQ
namespace Go.Proofs.YteiilmnehdbdiaaGreatDoor
open Go.RowKit

/-- What a call of Read answers, beside what it leaves of the reader. -/
def ReadE (t : TypeId) (w : World) (q : ByteArray × List Lab × Int) (e : Ending) (w' : World) : Prop :=
  ∃ v, e = .returned (.tuple #[.agg #[.string q.1, v], .int .i64 q.2.2]) ∧ OwnB t w' w.heap.size v q.2.1
theorem OwnB.aside {t : TypeId} {w w1 : World} {B L U : Nat} {v : Value} {gs : List Lab} (h : OwnB t w B v gs) (hb : Aside L U w w1) (hU : U ≤ B) : OwnB t w1 B v gs := h.block_ fun i hi hl => hb.block i hl (Or.inr (Nat.le_trans hU hi))
theorem Aside.belowStep {L U B : Nat} {a w w' : World} (h : Aside L U a w) (k : Below B w w') (hB : a.heap.size ≤ B) : Aside L U a w' :=
  ⟨k.os.trans h.os, k.tape.trans h.tape, k.output.trans h.output, Nat.le_trans h.size k.size, fun i hi ho => (k.block i (by omega)).trans (h.block i hi ho)⟩

theorem Aside.putNew {L U : Nat} {a w : World} (h : Aside L U a w) {p : Addr} (hp : a.heap.size ≤ p.block) (u : Value) : Aside L U a (w.setCell p u) :=
  ⟨h.os, h.tape, h.output, by rw [World.size_setCell]; exact h.size, fun i hi ho => (Below.heap_setCell w p u i (by omega)).trans (h.block i hi ho)⟩
theorem SRd.low_ {w w' : World} {B B' g : Nat} {bs : List Int} {e : Int} (h : SRd w B g bs e) (hb : Below B' w w') (hg : g < B') : SRd w' B g bs e := by
  obtain ⟨v, h1, h2, h3⟩ := h
  exact ⟨v, h1.low hb hg, h2.below (hb.mono (by omega)), h3⟩
theorem SRd.away_ {w : World} {B g : Nat} {bs : List Int} {e : Int} (h : SRd w B g bs e) {p : Addr} (hp : g < p.block) (u : Value) : SRd (w.setCell p u) B g bs e := h.low_ (B' := p.block) ((Below.refl _ w).setCell (Nat.le_refl _) u) hp

set_option maxRecDepth 100000 in
set_option maxHeartbeats 4000000 in
theorem rRead8_any (B g : Nat) (bs : List Int) (e : Int) (w : World) (hr : SRd w B g bs e) (hb : IsByte bs) (hn : bs.length ≤ 1000000) :
    Calls Tryz.prog 28 #[ptrV g] w fun e' w' => ReadE 48 w (readE bs e) e' w' ∧ SRd w' B g (rdAll bs e).2.1 (rdAll bs e).2.2 ∧ Aside g (g + 1) w w' := by
  obtain ⟨i0, hi, hz0, hz1, hz2⟩ := info_parts label8_info
  have hgl : g < w.heap.size := by obtain ⟨v, h1, -, -⟩ := hr; exact h1.lt
  have aR := At2.new w (.string ByteArray.empty) (.slice none 0 0) 32
  have hB0 := grew1 w (.cells #[.string ByteArray.empty, .slice none 0 0] 32)
  have hR0 := hr.below hB0
  have hsz0 : w.heap.size + 1 ≤ (w.alloc (.cells #[.string ByteArray.empty, .slice none 0 0] 32)).heap.size := by simp
  have C1 := Lib.hid (rTextR_any B g bs e 64 _ hR0 hb hn (by unfold Fits; omega))
  have HA0 := Lib.hid ((Aside.refl g (g + 1) w).step hB0)
  have HNM : Hid (bytS (stT bs e 64).1 = rdName bs e) := Lib.hid rfl
  have HCN : Hid (stC (stT bs e 64).2.1 (stT bs e 64).2.2 8 = rdCnt bs e) := Lib.hid rfl
  have HAL : Hid (rdL (rdCnt bs e).1.toNat (rdCnt bs e).2.1 (rdCnt bs e).2.2 = rdAll bs e) := Lib.hid rfl
  have HN64 : Hid ((rdName bs e).size ≤ 64) := Lib.hid (by rw [← HNM.out, bytS_size]; exact stT_len _ _)
  obtain ⟨hb1, hn1⟩ := byte_stT (e := e) (most := 64) hb hn
  have hcs := stC_small (stT bs e 64).2.1 (stT bs e 64).2.2 8 (by decide)
  have hc0 := stC_val hb1 (stT bs e 64).2.2 8
  have HB2 := Lib.hid (byte_stC (e := (stT bs e 64).2.2) (most := 8) hb1 hn1)
  have HQ : Hid (readE bs e = if (rdAll bs e).2.2 ≠ 0 then (ByteArray.empty, [], (rdAll bs e).2.2) else if IsRight (rdName bs e) (rdAll bs e).1 then (rdName bs e, (rdAll bs e).1, 0) else (ByteArray.empty, [], 10)) := Lib.hid rfl
  have HSZ : Hid (∀ l ∈ (rdAll bs e).1, l.1.size ≤ 64 ∧ l.2.size ≤ 64) := Lib.hid (rdL_size _ _ _)
  rw [HNM.out] at C1
  rw [HCN.out] at hcs hc0 HB2
  have C2 : Hid (∀ W, SRd W B g (stT bs e 64).2.1 (stT bs e 64).2.2 → _) := Lib.hid fun W h => rCountR_any B g (stT bs e 64).2.1 (stT bs e 64).2.2 8 W h hb1 hn1 (by unfold Fits; omega)
  rw [HCN.out] at C2
  generalize (stT bs e 64).2.1 = b1 at *
  generalize (stT bs e 64).2.2 = e1 at *
  generalize rdName bs e = nm at *
  generalize readE bs e = qe at *
  generalize rdAll bs e = al at *
  generalize rdCnt bs e = cn at *
  obtain ⟨cv, b2, e2⟩ := cn
  obtain ⟨N, rfl⟩ := Int.eq_ofNat_of_zero_le (show (0 : Int) ≤ cv from hc0)
  have hcs : (N : Int) ≤ 8 := hcs
  have HAL : Hid (rdL N b2 e2 = al) := HAL
  have HB2 : Hid (IsByte b2 ∧ b2.length ≤ 1000000) := HB2
  clear hr hR0 hb hn hb1 hn1 hc0 HNM HCN hB0
  have HAR := Lib.hid aR
  clear aR
  go_enter Tryz.func28, Tryz.ntmps28
  go_wp2_with fail
  refine (C1.out).mono ?_; rintro e3 w1 ⟨rfl, hS1, hA1⟩
  have aR1 := hA1.at2 HAR.out (Or.inr hgl)
  have aO1 := At2.new w1 (.string nm) (.slice none 0 0) 32
  have hB1 := grew1 w1 (.cells #[.string nm, .slice none 0 0] 32)
  have hS2 := hS1.below hB1
  have aR2 := aR1.alloc (.cells #[.string nm, .slice none 0 0] 32)
  have HA2 := Lib.hid ((HA0.out.trans hA1).step hB1)
  have hsz1 : w.heap.size + 1 ≤ w1.heap.size := Nat.le_trans hsz0 hA1.size
  have C2 := Lib.hid (C2.out _ hS2)
  have HW1 := Lib.hid aO1
  clear hS1 hA1 hS2 hB1 aR1 HA0 HAR hsz0 aO1
  go_wp2_with fail
  refine (C2.out).mono ?_; rintro e4 w2 ⟨rfl, hS3, hA3⟩
  have hsz2 : w1.heap.size + 1 ≤ w2.heap.size := by have := hA3.size; simpa using this
  have aR3 := hA3.at2 aR2 (Or.inr hgl)
  have aO3 := hA3.at2 HW1.out (Or.inr (by omega))
  have HA3 := Lib.hid (HA2.out.trans hA3)
  clear aR2 HW1 hA3 HA2 C1 C2
  generalize hG : w1.heap.size = G at *
  have HG := Lib.hid hG
  clear hG
  go_wp2_with fail
  go_loopw [6] (fun i wr => ∃ (k : Nat) (o : Value) (acc : List Lab) (b : List Int) (er : Int), k ≤ N ∧ i = .int .i64 k ∧ Hid (al = (acc ++ (rdL (N - k) b er).1, (rdL (N - k) b er).2)) ∧ Hid (IsByte b ∧ b.length ≤ 1000000) ∧ acc.length = k ∧ SRd wr B g b er ∧ At2 wr w.heap.size (.string ByteArray.empty) (.slice none 0 0) ∧ At2 wr G (.string nm) o ∧ OwnB 48 wr (G + 1) o acc ∧ Aside g (g + 1) w wr ∧ G + 1 ≤ wr.heap.size) (fun i _ => N - (intOf i).toNat)
  case atStart => exact ⟨0, _, [], b2, e2, Nat.zero_le _, rfl, Lib.hid (by rw [← HAL.out]; simp), HB2, rfl, hS3, aR3, aO3, OwnB.nil_ _ _ _, HA3.out, hsz2⟩
  case round =>
    clear hS3 aR3 aO3 HA3 hsz2
    obtain ⟨k, o, acc, b, er, hk, rfl, hal, hbb, hl, hS, aR, aO, hown, hA, hsz⟩ := hrel
    obtain ⟨Ao, co, rfl⟩ := hown.val
    by_cases hlt : k < N
    · have i1 : (k : Int) < (N : Int) := by omega
      obtain ⟨hb1, hn1⟩ := hbb.out
      obtain ⟨hb3, hn3⟩ := byte_stT (e := er) (most := 64) hb1 hn1
      have HB5 := Lib.hid (byte_stT (e := (stT b er 64).2.2) (most := 64) hb3 hn3)
      have HNX : Hid (al = ((acc ++ [(bytS (stT b er 64).1, bytS (stT (stT b er 64).2.1 (stT b er 64).2.2 64).1)]) ++ (rdL (N - (k + 1)) (stT (stT b er 64).2.1 (stT b er 64).2.2 64).2.1 (stT (stT b er 64).2.1 (stT b er 64).2.2 64).2.2).1, (rdL (N - (k + 1)) (stT (stT b er 64).2.1 (stT b er 64).2.2 64).2.1 (stT (stT b er 64).2.1 (stT b er 64).2.2 64).2.2).2)) := Lib.hid (by
        rw [hal.out, show N - k = (N - (k + 1)) + 1 by omega, rdL]; simp)
      have D1 := Lib.hid (rTextR_any B g b er 64 _ hS hb1 hn1 (by unfold Fits; omega))
      have D2 : Hid (∀ W, SRd W B g (stT b er 64).2.1 (stT b er 64).2.2 → _) := Lib.hid fun W h => rTextR_any B g (stT b er 64).2.1 (stT b er 64).2.2 64 W h hb3 hn3 (by unfold Fits; omega)
      generalize stT (stT b er 64).2.1 (stT b er 64).2.2 64 = q2 at *
      generalize stT b er 64 = q1 at *
      obtain ⟨t1, b3, e3⟩ := q1
      obtain ⟨t2, b4, e4⟩ := q2
      generalize hp0 : bytS t1 = p0 at *
      generalize hp1 : bytS t2 = p1 at *
      clear hp0 hp1 hal hbb hb1 hn1 hb3 hn3 hS
      have hlk : acc.length ≤ 8 := by omega
      have HL := Lib.hid hl
      clear hl
      go_wp2_with fail
      refine (D1.out).mono ?_; rintro e5 w3 ⟨rfl, hS3, hA3⟩
      have aR3 := hA3.at2 aR (Or.inr hgl)
      have aO3 := hA3.at2 aO (Or.inr (by have := HG.out; omega))
      have hown3 := hown.aside hA3 (by have := HG.out; omega)
      have HA3 := Lib.hid (hA.trans hA3)
      have hsz3 := Nat.le_trans hsz hA3.size
      have D2 := Lib.hid (D2.out _ hS3)
      clear aR aO hown hA hsz hA3 hS3
      go_wp2_with fail
      refine (D2.out).mono ?_; rintro e6 w4 ⟨rfl, hS4, hA4⟩
      have aR4 := hA4.at2 aR3 (Or.inr hgl)
      have aO4 := hA4.at2 aO3 (Or.inr (by have := HG.out; omega))
      have hown4 := hown3.aside hA4 (by have := HG.out; omega)
      have HA4 := Lib.hid (HA3.out.trans hA4)
      have hsz4 := Nat.le_trans hsz3 hA4.size
      obtain ⟨o0, o1, o2, o3⟩ := id aO4
      clear aR3 aO3 hown3 HA3 hsz3 hA4
      go_wp2_with (at_builtin; go_must (refine wpList_append_cells _ rfl (.tmp 24) (.tmp 28) 30 rfl (G + 1) 48 i0 (.agg #[.string ByteArray.empty, .string ByteArray.empty]) 2 32 Tryz.underlying30 hi hz0 hz1 hz2 rfl (by decide) _ acc.length (cellsB acc) rfl (World.ownsRow.alloc hown4 _) _ 1 1 [.string p0, .string p1] rfl rfl (lab_src _ _ _ _ _ (Lib.hid rfl)) (two_strs _ _) (by unfold maxLen; omega) (by omega) (Nat.le_trans hsz4 (by simp)) ?_); intro v5 w5 hown5 hgrow5; obtain ⟨hown6, hq⟩ := hown4.grew hsz4 hown5 hgrow5; clear hown5 hgrow5 o0 o1 o2 o3; obtain ⟨A2, c2, rfl⟩ := hown6.val1; have aO6 := aO4.low hq (by omega); obtain ⟨o0, o1, o2, o3⟩ := id aO6)
      have aR6 := (aR4.low hq (by have := HG.out; omega)).other (b' := G) (by have := HG.out; omega) 1 (.slice A2 (acc.length + 1) c2)
      have hS6 := ((hS4.low_ hq (by have := HG.out; omega)).away_ (p := ⟨G, 1, none⟩) (by have := HG.out; dsimp only; omega) (.slice A2 (acc.length + 1) c2))
      have HA6 := Lib.hid ((HA4.out.belowStep hq (by have := HG.out; omega)).putNew (p := ⟨G, 1, none⟩) (by have := HG.out; dsimp only; omega) (.slice A2 (acc.length + 1) c2))
      go_roundw
      case rel => exact ⟨k + 1, _, acc ++ [(p0, p1)], b4, e4, hlt, by go_num, HNX, HB5, by rw [List.length_append, HL.out]; rfl, hS6, aR6, aO6.set1 _, hown6.away (p := ⟨G, 1, none⟩) (by dsimp only; omega) _, HA6.out, by have := hq.size; simp; omega⟩
      case measure => simp [intOf]; omega
    · obtain rfl : k = N := by omega
      have hal : Hid (al = (acc, b, er)) := Lib.hid (by rw [hal.out, Nat.sub_self, rdL]; simp)
      have hl8 : acc.length ≤ 8 := by omega
      clear hl
      obtain ⟨v1, hAt, hLs, hBg⟩ := id hS
      obtain ⟨c0, c1, -, -⟩ := id hAt
      obtain ⟨r0, r1, r2, r3⟩ := id aR
      have HS := Lib.hid hS
      have hGw : w.heap.size < G := by have := HG.out; omega
      by_cases he : er = 0
      · subst he
        have LA : Hid (Labs _ _ (.slice Ao acc.length co) acc) := Lib.hid hown.labs
        have CRr := Lib.hid (rRight8_any nm _ acc _ LA.out (by have := HN64.out; omega) fun l h => by
          have := HSZ.out l (by rw [hal.out]; exact h)
          omega)
        obtain ⟨o0, o1, o2, o3⟩ := id aO
        by_cases hR : IsRight nm acc
        · have hE : Hid (qe = (nm, acc, 0)) := Lib.hid (by rw [HQ.out, hal.out]; rw [if_neg (by simp), if_pos hR])
          rw [decide_eq_true hR] at CRr
          clear hR hS hAt hLs
          go_wp2_with fail
          refine (CRr.out).mono ?_; rintro e6 w4 ⟨rfl, hq⟩
          have aR4 := aR.below hq
          have aO4 := aO.below hq
          have hown4 := hown.below hq
          have HS4 := Lib.hid (HS.out.below hq)
          have HA4 := Lib.hid (hA.belowStep hq (by have := hA.size; omega))
          have hsz4 := Nat.le_trans hsz hq.size
          clear r0 r1 r2 r3 o0 o1 o2 o3 c0 c1
          obtain ⟨r0, r1, r2, r3⟩ := id aR4
          obtain ⟨o0, o1, o2, o3⟩ := id aO4
          have HF := Lib.hid ((aR4.set0 (.string nm)).set1 (.slice Ao acc.length co))
          have HGo := Lib.hid (((hown4.away (p := ⟨w.heap.size, 0, none⟩) (by dsimp only; omega) (.string nm)).away (p := ⟨w.heap.size, 1, none⟩) (by dsimp only; omega) (.slice Ao acc.length co)).less (show w.heap.size ≤ G + 1 by omega))
          have HS5 := Lib.hid ((HS4.out.away_ (p := ⟨w.heap.size, 0, none⟩) (by dsimp only; omega) (.string nm)).away_ (p := ⟨w.heap.size, 1, none⟩) (by dsimp only; omega) (.slice Ao acc.length co))
          have HA5 := Lib.hid ((HA4.out.putNew (p := ⟨w.heap.size, 0, none⟩) (Nat.le_refl _) (.string nm)).putNew (p := ⟨w.heap.size, 1, none⟩) (Nat.le_refl _) (.slice Ao acc.length co))
          go_wp2_with fail
          have z0 := HF.out.c0
          have z1 := HF.out.c1
          exact bodyPost_ret (v := .tuple #[.agg #[.string nm, .slice Ao acc.length co], .int .i64 0]) (by simp [results, Tryz.results28, go_sem, z0, z1]) rfl ⟨by rw [hE.out]; exact ⟨_, rfl, HGo.out⟩, by rw [hal.out]; exact HS5.out, HA5.out⟩
        · have hE : Hid (qe = (ByteArray.empty, [], 10)) := Lib.hid (by rw [HQ.out, hal.out]; rw [if_neg (by simp), if_neg hR])
          rw [decide_eq_false hR] at CRr
          clear hR hS hAt hLs
          go_wp2_with fail
          refine (CRr.out).mono ?_; rintro e6 w4 ⟨rfl, hq⟩
          have aR4 := aR.below hq
          have HS4 := Lib.hid (HS.out.below hq)
          have HA4 := Lib.hid (hA.belowStep hq (by have := hA.size; omega))
          clear r0 r1 r2 r3 o0 o1 o2 o3 c0 c1
          obtain ⟨r0, r1, r2, r3⟩ := id aR4
          have HF := Lib.hid ((aR4.set0 (.string ByteArray.empty)).set1 (.slice none 0 0))
          have HS5 := Lib.hid ((HS4.out.away_ (p := ⟨w.heap.size, 0, none⟩) (by dsimp only; omega) (.string ByteArray.empty)).away_ (p := ⟨w.heap.size, 1, none⟩) (by dsimp only; omega) (.slice none 0 0))
          have HA5 := Lib.hid ((HA4.out.putNew (p := ⟨w.heap.size, 0, none⟩) (Nat.le_refl _) (.string ByteArray.empty)).putNew (p := ⟨w.heap.size, 1, none⟩) (Nat.le_refl _) (.slice none 0 0))
          go_wp2_with fail
          have z0 := HF.out.c0
          have z1 := HF.out.c1
          exact bodyPost_ret (v := .tuple #[.agg #[.string ByteArray.empty, .slice none 0 0], .int .i64 10]) (by simp [results, Tryz.results28, go_sem, r0, r1]; rfl) rfl ⟨by rw [hE.out]; exact ⟨_, rfl, OwnB.nil_ _ _ _⟩, by rw [hal.out]; exact HS5.out, HA5.out⟩
      · have hE : Hid (qe = (ByteArray.empty, [], er)) := Lib.hid (by rw [HQ.out, hal.out]; rw [if_pos he])
        have he1 : (er != 0) = true := by simpa using he
        have he2 : (er == 0) = false := by simpa using he
        clear he hS hAt hLs
        go_wp2_with fail
        have aR1 := aR.drew
        have HS1 : Hid (SRd (World.drew _) B g b er) := Lib.hid HS.out.drew
        have HA1 := Lib.hid (Aside.drew hA)
        have c1' : (wr.drew).cell? ⟨g, 1, none⟩ = some (.int .i64 er) := c1
        refine wp_region_held_drew (S := fun w' => w'.cell? ⟨g, 1, none⟩ = some (.int .i64 er)) (by kernel_rfl) ?_ (fun hHeld => ?_)
        · exact c1'
        clear aR HS hA c0 c1 r0 r1 r2 r3 aO hown hsz
        generalize wr.drew = w5 at *
        refine take_at (i := 0) (d := some 36) (v := ?_) rfl rfl (by kernel_rfl) (by kernel_rfl) (by kernel_rfl) (fun _ _ _ h => h) (Or.inl ⟨by rfl, ?hyr1⟩) (by assumption) ?restr1
        case hyr1 => (intro w hSw; (try dsimp only at hSw); go_simp; try with_reducible rfl)
        (try simp only [Act.put]); (try simp only [List.setIfInBounds_toArray]); (try simp only [List.set_cons_succ]); (try simp only [List.set_cons_zero])
        refine take_at (i := 1) (d := some 37) (v := ?_) rfl rfl (by kernel_rfl) (by kernel_rfl) (by kernel_rfl) (fun _ _ _ h => h) (Or.inl ⟨by rfl, ?hyr2⟩) (by assumption) ?restr2
        case hyr2 => (intro w hSw; (try dsimp only at hSw); go_simp; try with_reducible rfl)
        (try simp only [Act.put]); (try simp only [List.setIfInBounds_toArray]); (try simp only [List.set_cons_succ]); (try simp only [List.set_cons_zero])
        refine take_at (i := 2) (d := some 38) (v := ?_) rfl rfl (by kernel_rfl) (by kernel_rfl) (by kernel_rfl) (fun _ _ _ h => h) (Or.inl ⟨by rfl, ?hyr3⟩) (by assumption) ?restr3
        case hyr3 => (intro w hSw; (try dsimp only at hSw); go_simp; try with_reducible rfl)
        (try simp only [Act.put]); (try simp only [List.setIfInBounds_toArray]); (try simp only [List.set_cons_succ]); (try simp only [List.set_cons_zero])
        refine take_at (i := 3) (d := some 39) (v := ?_) rfl rfl (by kernel_rfl) (by kernel_rfl) (by kernel_rfl) (fun _ _ _ h => h) (Or.inl ⟨by rfl, ?hyr4⟩) (by assumption) ?restr4
        case hyr4 => (intro w hSw; (try dsimp only at hSw); go_simp; try with_reducible rfl)
        (try simp only [Act.put]); (try simp only [List.setIfInBounds_toArray]); (try simp only [List.set_cons_succ]); (try simp only [List.set_cons_zero])
        refine take_at (i := 4) (d := some 40) (v := ?_) rfl rfl (by kernel_rfl) (by kernel_rfl) (by kernel_rfl) (fun _ _ _ h => h) (Or.inl ⟨by rfl, ?hyr5⟩) (by assumption) ?restr5
        case hyr5 => (intro w hSw; (try dsimp only at hSw); go_simp; try with_reducible rfl)
        (try simp only [Act.put]); (try simp only [List.setIfInBounds_toArray]); (try simp only [List.set_cons_succ]); (try simp only [List.set_cons_zero])
        refine wpAnyH_ready (rs := [5]) (by kernel_rfl) (by simp) ?_
        refine AllReadyH.cons rfl (fun K hK => ?_) AllReadyH.nil
        obtain ⟨r0, r1, r2, r3⟩ := id aR1
        have HF := Lib.hid ((aR1.set0 (.string ByteArray.empty)).set1 (.slice none 0 0))
        have HS5 := Lib.hid ((HS1.out.away_ (p := ⟨w.heap.size, 0, none⟩) (by dsimp only; omega) (.string ByteArray.empty)).away_ (p := ⟨w.heap.size, 1, none⟩) (by dsimp only; omega) (.slice none 0 0))
        have HA5 := Lib.hid ((HA1.out.putNew (p := ⟨w.heap.size, 0, none⟩) (Nat.le_refl _) (.string ByteArray.empty)).putNew (p := ⟨w.heap.size, 1, none⟩) (Nat.le_refl _) (.slice none 0 0))
        have hc5 : ((w5.setCell ⟨w.heap.size, 0, none⟩ (.string ByteArray.empty)).setCell ⟨w.heap.size, 1, none⟩ (.slice none 0 0)).cell? ⟨g, 1, none⟩ = some (.int .i64 er) := by rw [World.cell?_setCell_other _ _ _ _ (fun e => by injection e with e1; omega), World.cell?_setCell_other _ _ _ _ (fun e => by injection e with e1; omega)]; exact c1'
        go_simp
        refine hK.out _ _ ?_ (fun hHeld => ?_)
        · exact hc5
        clear hK K
        (try simp only [Act.put]); (try simp only [List.setIfInBounds_toArray]); (try simp only [List.set_cons_succ]); (try simp only [List.set_cons_zero])
        refine take_at (i := 6) (d := some 3) (v := ?_) rfl rfl (by kernel_rfl) (by kernel_rfl) (by kernel_rfl) (fun _ _ _ h => h) (Or.inl ⟨by rfl, ?hyr6⟩) (by assumption) ?restr6
        case hyr6 => (intro w hSw; (try dsimp only at hSw); go_simp; try with_reducible rfl)
        (try simp only [Act.put]); (try simp only [List.setIfInBounds_toArray]); (try simp only [List.set_cons_succ]); (try simp only [List.set_cons_zero])
        refine wpAnyH_done (by kernel_rfl) ?_ _
        go_wp2_with fail
        have z0 := HF.out.c0
        have z1 := HF.out.c1
        exact bodyPost_ret (v := .tuple #[.agg #[.string ByteArray.empty, .slice none 0 0], .int .i64 er]) (by simp [results, Tryz.results28, go_sem, r0, r1]; rfl) rfl ⟨by rw [hE.out]; exact ⟨_, rfl, OwnB.nil_ _ _ _⟩, by rw [hal.out]; exact HS5.out, HA5.out⟩
end Go.Proofs.YteiilmnehdbdiaaGreatDoor
