/- Law 6's told, walked: what was written is read again, whole; cut, it ends too early. -/
import Derived.Test.YtcihojimojipiaaCodLawA
import Derived.Test.YtcihojimojipiaaCodN
namespace Go.Proofs.Ytcihojimojipiaa
open Go.RowKit
variable {Rd : World → Nat → Nat → Nat → List Int → Int → Prop}

theorem byte_stU {bs : List Int} {e : Int} {m : Nat} (h : IsByte bs) (hn : bs.length ≤ m) : IsByte (stU bs e).2.1 ∧ (stU bs e).2.1.length ≤ m := by
  unfold stU
  split
  · obtain ⟨h1, h2⟩ := readU_rest bs
    refine ⟨?_, Nat.le_trans h2 hn⟩
    rw [h1]
    exact fun c hc => h c (List.mem_of_mem_drop hc)
  · exact ⟨h, hn⟩
theorem byte_stC {bs : List Int} {e most : Int} {m : Nat} (h : IsByte bs) (hn : bs.length ≤ m) : IsByte (stC bs e most).2.1 ∧ (stC bs e most).2.1.length ≤ m := by
  unfold stC
  split
  · exact ⟨h, hn⟩
  · exact byte_stU h hn
theorem byte_stT {bs : List Int} {e most : Int} {m : Nat} (h : IsByte bs) (hn : bs.length ≤ m) : IsByte (stT bs e most).2.1 ∧ (stT bs e most).2.1.length ≤ m := by
  have hc := byte_stC (e := e) (most := most) h hn
  unfold stT
  split
  · split
    · exact ⟨h, hn⟩
    · refine ⟨fun c hx => hc.1 c (List.mem_of_mem_drop hx), ?_⟩
      rw [List.length_drop]
      omega
  · exact hc
theorem uintsL_at {zs : List Int} {k : Nat} (h : k < zs.length) : uintsL (zs.drop k) = lebL zs[k].toNat ++ uintsL (zs.drop (k + 1)) := by
  rw [List.drop_eq_getElem_cons h]; rfl
theorem intsL_at {zs : List Int} {k : Nat} (h : k < zs.length) : intsL (zs.drop k) = lebL (turnI zs[k]).toNat ++ intsL (zs.drop (k + 1)) := by
  rw [List.drop_eq_getElem_cons h]; rfl
theorem textsL_at {ss : List ByteArray} {k : Nat} (h : k < ss.length) : textsL (ss.drop k) = txtL ss[k] ++ textsL (ss.drop (k + 1)) := by
  rw [List.drop_eq_getElem_cons h]; rfl
/-- A reader on its way through what is still to come. -/
def Way (Rd : World → Nat → Nat → Nat → List Int → Int → Prop) (good : Bool) (w wx : World) (g L U : Nat) (full : List Int) (b : Bool) : Prop :=
  ∃ bs e, IsByte bs ∧ bs.length ≤ 1000000 ∧ Rd wx g L U bs e ∧ InvT good full bs e b ∧ Aside L U w wx

set_option maxRecDepth 100000 in
set_option maxHeartbeats 8000000 in
theorem told6_any (G : CodeC Rd) (good : Bool) (g L U : Nat) (bs : List Int) (v0 v1 v2 : Value) (zs ys : List Int) (ss : List ByteArray) (w : World) (B : Nat) (hBL : B ≤ L) (hBw : B ≤ w.heap.size)
    (hR : Rd w g L U bs 0) (hby : IsByte bs) (hln : bs.length ≤ 1000000) (hI : InvT good (uintsL zs ++ (intsL ys ++ textsL ss)) bs 0 true)
    (L0 : Lst w B .u64 v0 zs) (F0 : ∀ z ∈ zs, 0 ≤ z ∧ z < 18446744073709551616) (L1 : Lst w B .i64 v1 ys) (F1 : ∀ z ∈ ys, Fits z) (L2 : LstS w B v2 ss) (F2 : ∀ s ∈ ss, s.size ≤ 300) (N0 : zs.length ≤ 100) (N1 : ys.length ≤ 100) (N2 : ss.length ≤ 100) :
    Calls Try.prog 35 #[ptrV g, v0, v1, v2] w fun e w' => e = .returned (.bool good) ∧ Aside L U w w' ∧ ∃ bs', Rd w' g L U bs' (if good then 0 else 15) := by
  obtain ⟨A0, c0, rfl⟩ := L0.len
  obtain ⟨A1, c1, rfl⟩ := L1.len
  obtain ⟨A2, c2, rfl⟩ := L2.len
  have HL0 := Lib.hid L0
  have HL1 := Lib.hid L1
  have HL2 := Lib.hid L2
  have HF0 := Lib.hid F0
  have HF1 := Lib.hid F1
  have HF2 := Lib.hid F2
  have HG := Lib.hid G
  have HW0 : Way Rd good w w g L U (uintsL (zs.drop 0) ++ (intsL ys ++ textsL ss)) true := ⟨bs, 0, hby, hln, hR, hI, Aside.refl _ _ _⟩
  clear G L0 L1 L2 F0 F1 F2 hR hI hby hln
  go_enter Try.func35, Try.ntmps35
  go_wp2_with fail
  go_loopw [9, 10] (fun ok i wr => ∃ (k : Nat) (b : Bool), k ≤ zs.length ∧ i = .int .i64 k ∧ ok = .bool b ∧ Way Rd good w wr g L U (uintsL (zs.drop k) ++ (intsL ys ++ textsL ss)) b) (fun _ i _ => zs.length - (intOf i).toNat)
  case atStart => exact ⟨0, true, Nat.zero_le _, rfl, rfl, HW0⟩
  case round =>
    clear HW0
    obtain ⟨k, b, hk, rfl, rfl, HW⟩ := hrel
    by_cases hlt : k < zs.length
    · obtain ⟨ad, rfl, hab, hcell⟩ := HL0.out.at_ hlt
      have HC : Hid (∀ W, Aside L U w W → W.cell? (ad.add k) = some (.int .u64 zs[k])) := Lib.hid fun W h => ((h.below hBL hBw).cell (by rw [block_of_add]; exact hab)).trans hcell
      have hz := HF0.out _ (List.getElem_mem hlt)
      rw [uintsL_at hlt, List.append_assoc] at HW
      obtain ⟨b1, e1, hby, hln, hR, hI, hA⟩ := HW
      obtain ⟨x, hx, hgx, hst⟩ := hI.num (by omega)
      have hgx' : good = true → x = zs[k] := fun h => (hgx h).trans (by omega)
      obtain ⟨hby2, hln2⟩ := byte_stU (e := e1) hby hln
      have CU := HG.out.uint _ _ _ _ _ _ hR hby hln
      rw [hx] at CU
      replace CU := Lib.hid CU
      have HI := Lib.hid hI
      have i0 : (0 : Int) ≤ (k : Int) := by omega
      have i1 : (k : Int) < (zs.length : Int) := by omega
      have HN : Hid (∀ c : Bool, (good = true → c = true) → ∀ W, Rd W g L U (stU b1 e1).2.1 (stU b1 e1).2.2 → Aside L U w W → Way Rd good w W g L U (uintsL (zs.drop (k + 1)) ++ (intsL ys ++ textsL ss)) c) := Lib.hid fun c hc W h1 h2 => ⟨_, _, hby2, hln2, h1, hst c hc, h2⟩
      clear hcell hz hby hln hst hgx hx hby2 hln2 hI hR
      have HGX := Lib.hid hgx'
      clear hgx'
      generalize zs[k] = z at *
      go_wp2_with fail
      refine (CU.out).mono ?_; rintro e w1 ⟨rfl, hR1, hA1⟩
      have hA2 := hA.trans hA1
      have c1 := HC.out _ hA2
      clear hA1 hA CU
      cases b with
      | true =>
        go_wp2_with fail
        go_roundw
        case rel => exact ⟨k + 1, (x == z), hlt, by go_num, rfl, HN.out _ (fun h => by simp [HGX.out h]) _ hR1 hA2⟩
        case measure => simp [intOf]; omega
      | false =>
        have hgf : good = false := by
          rcases HI.out with ⟨-, -, -, h⟩ | ⟨h, -⟩
          · cases h
          · exact h
        go_wp2_with fail
        go_roundw
        case rel => exact ⟨k + 1, false, hlt, by go_num, rfl, HN.out _ (fun h => by rw [hgf] at h; cases h) _ hR1 hA2⟩
        case measure => simp [intOf]; omega
    · obtain rfl : k = zs.length := by omega
      have HW0 : Way Rd good w wr g L U (intsL (ys.drop 0) ++ textsL ss) b := by rw [List.drop_length] at HW; exact HW
      clear HW hk hlt
      go_wp2_with fail
      go_loopw [9, 12] (fun ok i wr => ∃ (k : Nat) (b : Bool), k ≤ ys.length ∧ i = .int .i64 k ∧ ok = .bool b ∧ Way Rd good w wr g L U (intsL (ys.drop k) ++ textsL ss) b) (fun _ i _ => ys.length - (intOf i).toNat)
      case atStart => exact ⟨0, b, Nat.zero_le _, rfl, rfl, HW0⟩
      case round =>
        clear HW0
        obtain ⟨k, b, hk, rfl, rfl, HW⟩ := hrel
        by_cases hlt : k < ys.length
        · obtain ⟨ad, rfl, hab, hcell⟩ := HL1.out.at_ hlt
          have HC : Hid (∀ W, Aside L U w W → W.cell? (ad.add k) = some (.int .i64 ys[k])) := Lib.hid fun W h => ((h.below hBL hBw).cell (by rw [block_of_add]; exact hab)).trans hcell
          have hz := HF1.out _ (List.getElem_mem hlt)
          have htb := turn_bd hz
          rw [intsL_at hlt, List.append_assoc] at HW
          obtain ⟨b1, e1, hby, hln, hR, hI, hA⟩ := HW
          obtain ⟨x, hx, hgx, hst⟩ := hI.num (by omega)
          have hgx' : good = true → unturnI x = ys[k] := fun h => by rw [hgx h, Int.toNat_of_nonneg htb.1, unturn_turn]
          obtain ⟨hby2, hln2⟩ := byte_stU (e := e1) hby hln
          have CU := HG.out.int _ _ _ _ _ _ hR hby hln
          rw [hx] at CU
          replace CU := Lib.hid CU
          have HI := Lib.hid hI
          have i0 : (0 : Int) ≤ (k : Int) := by omega
          have i1 : (k : Int) < (ys.length : Int) := by omega
          have HN : Hid (∀ c : Bool, (good = true → c = true) → ∀ W, Rd W g L U (stU b1 e1).2.1 (stU b1 e1).2.2 → Aside L U w W → Way Rd good w W g L U (intsL (ys.drop (k + 1)) ++ textsL ss) c) := Lib.hid fun c hc W h1 h2 => ⟨_, _, hby2, hln2, h1, hst c hc, h2⟩
          clear hcell hz hby hln hst hgx hx hby2 hln2 hI hR htb
          have HGX := Lib.hid hgx'
          clear hgx'
          generalize unturnI x = x at *
          generalize ys[k] = z at *
          go_wp2_with fail
          refine (CU.out).mono ?_; rintro e w1 ⟨rfl, hR1, hA1⟩
          have hA2 := hA.trans hA1
          have c1 := HC.out _ hA2
          clear hA1 hA CU
          cases b with
          | true =>
            go_wp2_with fail
            go_roundw
            case rel => exact ⟨k + 1, (x == z), hlt, by go_num, rfl, HN.out _ (fun h => by simp [HGX.out h]) _ hR1 hA2⟩
            case measure => simp [intOf]; omega
          | false =>
            have hgf : good = false := by
              rcases HI.out with ⟨-, -, -, h⟩ | ⟨h, -⟩
              · cases h
              · exact h
            go_wp2_with fail
            go_roundw
            case rel => exact ⟨k + 1, false, hlt, by go_num, rfl, HN.out _ (fun h => by rw [hgf] at h; cases h) _ hR1 hA2⟩
            case measure => simp [intOf]; omega
        · obtain rfl : k = ys.length := by omega
          have HW0 : Way Rd good w wr g L U (textsL (ss.drop 0)) b := by rw [List.drop_length] at HW; exact HW
          clear HW hk hlt
          go_wp2_with fail
          go_loopw [9, 14] (fun ok i wr => ∃ (k : Nat) (b : Bool), k ≤ ss.length ∧ i = .int .i64 k ∧ ok = .bool b ∧ Way Rd good w wr g L U (textsL (ss.drop k)) b) (fun _ i _ => ss.length - (intOf i).toNat)
          case atStart => exact ⟨0, b, Nat.zero_le _, rfl, rfl, HW0⟩
          case round =>
            clear HW0
            obtain ⟨k, b, hk, rfl, rfl, HW⟩ := hrel
            by_cases hlt : k < ss.length
            · obtain ⟨ad, rfl, hab, hcell⟩ := HL2.out.at_ hlt
              have HC : Hid (∀ W, Aside L U w W → W.cell? (ad.add k) = some (.string ss[k])) := Lib.hid fun W h => ((h.below hBL hBw).cell (by rw [block_of_add]; exact hab)).trans hcell
              have hz := HF2.out _ (List.getElem_mem hlt)
              rw [textsL_at hlt] at HW
              obtain ⟨b1, e1, hby, hln, hR, hI, hA⟩ := HW
              obtain ⟨x, hx, hgx, hst⟩ := hI.txt hz
              obtain ⟨hby2, hln2⟩ := byte_stT (e := e1) (most := 300) hby hln
              have CU := HG.out.text _ _ _ _ _ _ 300 hR hby hln (by decide)
              rw [hx] at CU
              replace CU := Lib.hid CU
              have HI := Lib.hid hI
              have i0 : (0 : Int) ≤ (k : Int) := by omega
              have i1 : (k : Int) < (ss.length : Int) := by omega
              have HN : Hid (∀ c : Bool, (good = true → c = true) → ∀ W, Rd W g L U (stT b1 e1 300).2.1 (stT b1 e1 300).2.2 → Aside L U w W → Way Rd good w W g L U (textsL (ss.drop (k + 1))) c) := Lib.hid fun c hc W h1 h2 => ⟨_, _, hby2, hln2, h1, hst c hc, h2⟩
              have HGX := Lib.hid hgx
              clear hcell hz hby hln hst hgx hx hby2 hln2 hI hR
              generalize ss[k] = z at *
              go_wp2_with fail
              refine (CU.out).mono ?_; rintro e w1 ⟨rfl, hR1, hA1⟩
              have hA2 := hA.trans hA1
              have c1 := HC.out _ hA2
              clear hA1 hA CU
              cases b with
              | true =>
                go_wp2_with fail
                go_roundw
                case rel => exact ⟨k + 1, (x.toList == z.toList), hlt, by go_num, rfl, HN.out _ (fun h => by simp [HGX.out h]) _ hR1 hA2⟩
                case measure => simp [intOf]; omega
              | false =>
                have hgf : good = false := by
                  rcases HI.out with ⟨-, -, -, h⟩ | ⟨h, -⟩
                  · cases h
                  · exact h
                go_wp2_with fail
                go_roundw
                case rel => exact ⟨k + 1, false, hlt, by go_num, rfl, HN.out _ (fun h => by rw [hgf] at h; cases h) _ hR1 hA2⟩
                case measure => simp [intOf]; omega
            · obtain rfl : k = ss.length := by omega
              rw [List.drop_length] at HW
              obtain ⟨b1, e1, hby, hln, hR, hI, hA⟩ := HW
              have CE := Lib.hid (HG.out.end_ _ _ _ _ _ _ hR)
              clear hk hlt hR
              rcases hI.err with ⟨rfl, rfl, rfl, rfl⟩ | ⟨rfl, rfl⟩
              · go_wp2_with fail
                refine (CE.out).mono ?_; rintro e w1 ⟨rfl, hR1, hA1⟩
                have hA2 := hA.trans hA1
                have CLf := Lib.hid (HG.out.left _ _ _ _ _ _ hR1)
                rw [show stE [] 0 = 0 from rfl] at *
                go_wp2_with fail
                refine (CLf.out).mono ?_; rintro e w2 ⟨rfl, hb⟩
                have hR2 := HG.out.below hR1 hb
                go_wp2_with fail
                go_ret
                exact ⟨rfl, hA2.step hb, _, hR2⟩
              · go_wp2_with fail
                refine (CE.out).mono ?_; rintro e w1 ⟨rfl, hR1, hA1⟩
                have hA2 := hA.trans hA1
                have e15 : stE b1 15 = 15 := by unfold stE; rw [if_neg (fun h => absurd h.1 (by decide))]
                rw [e15] at *
                clear e15
                go_wp2_with fail
                go_ret
                exact ⟨rfl, hA2, _, hR1⟩
end Go.Proofs.Ytcihojimojipiaa
