/- CodeWrites, walked. -/
import Derived.Test.YtcihojimojipiaaCodV
namespace Go.Proofs.Ytcihojimojipiaa
open Go.RowKit
variable {Rd : World → Nat → Nat → Nat → List Int → Int → Prop}

theorem uintsL_len {zs : List Int} (h : ∀ z ∈ zs, 0 ≤ z ∧ z < 18446744073709551616) : (uintsL zs).length ≤ 10 * zs.length := by
  induction zs with
  | nil => simp [uintsL]
  | cons z t ih =>
    have h1 := ih fun x hx => h x (List.mem_cons_of_mem _ hx)
    have h2 := h z (List.mem_cons_self ..)
    have h3 := leb_ten (n := z.toNat) (by omega)
    show (lebL z.toNat ++ uintsL t).length ≤ 10 * (t.length + 1)
    rw [List.length_append]; omega
theorem intsL_len {zs : List Int} (h : ∀ z ∈ zs, Fits z) : (intsL zs).length ≤ 10 * zs.length := by
  induction zs with
  | nil => simp [intsL]
  | cons z t ih =>
    have h1 := ih fun x hx => h x (List.mem_cons_of_mem _ hx)
    have h2 := turn_bd (h z (List.mem_cons_self ..))
    have h3 := leb_ten (n := (turnI z).toNat) (by omega)
    show (lebL (turnI z).toNat ++ intsL t).length ≤ 10 * (t.length + 1)
    rw [List.length_append]; omega
theorem txtL_len {s : ByteArray} {m : Nat} (h : s.size ≤ m) (hm : m ≤ 1000000) : (txtL s).length ≤ m + 10 := by
  unfold txtL
  rw [List.length_append, strB_len]
  have := leb_ten (n := s.size) (by omega)
  omega
theorem textsL_len {ss : List ByteArray} {m : Nat} (hm : m ≤ 1000000) (h : ∀ s ∈ ss, s.size ≤ m) : (textsL ss).length ≤ (m + 10) * ss.length := by
  induction ss with
  | nil => simp [textsL]
  | cons s t ih =>
    have h1 := ih fun x hx => h x (List.mem_cons_of_mem _ hx)
    have h2 := txtL_len (h s (List.mem_cons_self ..)) hm
    show (txtL s ++ textsL t).length ≤ (m + 10) * (t.length + 1)
    rw [List.length_append, Nat.mul_succ]; omega
theorem uintsL_next {zs : List Int} {k : Nat} (h : k < zs.length) : uintsL (zs.take (k + 1)) = uintsL (zs.take k) ++ lebL zs[k].toNat := by
  unfold uintsL; rw [List.take_succ_eq_append_getElem h, List.flatMap_append]; simp
theorem intsL_next {zs : List Int} {k : Nat} (h : k < zs.length) : intsL (zs.take (k + 1)) = intsL (zs.take k) ++ lebL (turnI zs[k]).toNat := by
  unfold intsL; rw [List.take_succ_eq_append_getElem h, List.flatMap_append]; simp
theorem textsL_next {ss : List ByteArray} {k : Nat} (h : k < ss.length) : textsL (ss.take (k + 1)) = textsL (ss.take k) ++ txtL ss[k] := by
  unfold textsL; rw [List.take_succ_eq_append_getElem h, List.flatMap_append]; simp
theorem Lst.at_ {w : World} {B : Nat} {k : IntKind} {A : Option Addr} {n c : Nat} {zs : List Int} (h : Lst w B k (.slice A n c) zs) {j : Nat} (hj : j < zs.length) : ∃ ad, A = some ad ∧ ad.block < B ∧ w.cell? (ad.add j) = some (.int k zs[j]) := by
  obtain ⟨A', c', e, _, hr⟩ := h
  obtain ⟨ad, rfl, hb, hc⟩ := hr (by omega)
  injection e with e
  exact ⟨ad, e, hb, hc j hj⟩
theorem LstS.at_ {w : World} {B : Nat} {A : Option Addr} {n c : Nat} {ss : List ByteArray} (h : LstS w B (.slice A n c) ss) {j : Nat} (hj : j < ss.length) : ∃ ad, A = some ad ∧ ad.block < B ∧ w.cell? (ad.add j) = some (.string ss[j]) := by
  obtain ⟨A', c', e, _, hr⟩ := h
  obtain ⟨ad, rfl, hb, hc⟩ := hr (by omega)
  injection e with e
  exact ⟨ad, e, hb, hc j hj⟩

theorem bytes_small {n : Nat} (h : n ≤ 140737488355328) : n ≤ maxLen := by unfold maxLen; omega

set_option maxRecDepth 100000 in
set_option maxHeartbeats 8000000 in
theorem codeWrites_any (G : CodeC Rd) (v0 v1 v2 : Value) (zs ys : List Int) (ss : List ByteArray) (w : World) (L0 : Lst w w.heap.size .u64 v0 zs) (F0 : ∀ z ∈ zs, 0 ≤ z ∧ z < 18446744073709551616)
    (L1 : Lst w w.heap.size .i64 v1 ys) (F1 : ∀ z ∈ ys, Fits z) (L2 : LstS w w.heap.size v2 ss) (B0 : zs.length ≤ 140737488355328) (B1 : ys.length ≤ 140737488355328) (B2 : ss.length ≤ 140737488355328) :
    Calls Try.prog 3 #[v0, v1, v2] w fun e w' => e = .returned (.bool true) ∧ Below w.heap.size w w' := by
  obtain ⟨A0, c0, rfl⟩ := L0.len
  obtain ⟨A1, c1, rfl⟩ := L1.len
  obtain ⟨A2, c2, rfl⟩ := L2.len
  obtain ⟨i0, hi, hz0, hz1, hz2⟩ := info_parts byte_info
  have C0 := Lib.hid (alive6_any G w)
  have b0 : (zs.length : Int) ≤ 140737488355328 := by omega
  have b1 : (ys.length : Int) ≤ 140737488355328 := by omega
  have b2 : (ss.length : Int) ≤ 140737488355328 := by omega
  by_cases hlen : 200 < zs.length + ys.length + ss.length
  · have h1 : (200 : Int) < (zs.length : Int) + (ys.length : Int) + (ss.length : Int) := by omega
    clear G L0 L1 L2 F0 F1
    go_enter Try.func3, Try.ntmps3
    go_wp2_with fail
    refine (C0.out).mono ?_; rintro e w1 ⟨rfl, hB⟩
    go_wp2_with fail
    go_ret
    exact ⟨rfl, hB⟩
  · have h1 : ¬ (200 : Int) < (zs.length : Int) + (ys.length : Int) + (ss.length : Int) := by omega
    have l0 : zs.length ≤ 200 := by omega
    have l1 : ys.length ≤ 200 := by omega
    have l2 : ss.length ≤ 200 := by omega
    have HL0 := Lib.hid L0
    have HL1 := Lib.hid L1
    have HL2 := Lib.hid L2
    have HF0 := Lib.hid F0
    have HF1 := Lib.hid F1
    have CU := Lib.hid fun W (h : Below w.heap.size w W) => G.uints _ zs W ((L0.below h).more h.size) F0 (by omega)
    have CI := Lib.hid fun W (h : Below w.heap.size w W) => G.ints _ ys W ((L1.below h).more h.size) F1 (by omega)
    have CT := Lib.hid fun W (h : Below w.heap.size w W) (hs : ∀ s ∈ ss, s.size ≤ 1000) => G.texts _ ss W ((L2.below h).more h.size) (fun s hsx => Nat.le_trans (hs s hsx) (by decide)) (by omega)
    have CTU := Lib.hid G.turn
    have CUT := Lib.hid G.unturn
    clear G L0 L1 L2 F0 F1 hlen B0 B1 B2
    go_enter Try.func3, Try.ntmps3
    go_wp2_with fail
    refine (C0.out).mono ?_; rintro e w1 ⟨rfl, hB⟩
    have hO : Owned 5 .u8 (w1.alloc (.cells #[] 5)) w.heap.size (.slice (some ⟨w1.heap.size, 0, none⟩) 0 0) (uintsL (zs.take 0)) := owned_empty _ w1 _ hB.size
    replace hB := ext_alloc hB (.cells #[] 5)
    clear C0
    go_wp2_with fail
    generalize w1.alloc (.cells #[] 5) = W1 at *
    go_loopw [7, 8] (fun x i wr => ∃ k : Nat, k ≤ zs.length ∧ i = .int .i64 k ∧ Owned 5 .u8 wr w.heap.size x (uintsL (zs.take k)) ∧ Below w.heap.size w wr) (fun _ i _ => zs.length - (intOf i).toNat)
    case atStart => exact ⟨0, Nat.zero_le _, rfl, hO, hB⟩
    case round =>
      clear hO hB
      obtain ⟨k, hk, rfl, hO, hB⟩ := hrel
      by_cases hlt : k < zs.length
      · obtain ⟨ad, rfl, hab, hcell⟩ := HL0.out.at_ hlt
        have HC : Hid (∀ W, Below w.heap.size w W → W.cell? (ad.add k) = some (.int .u64 zs[k])) := Lib.hid fun W h => (h.cell (by rw [block_of_add]; exact hab)).trans hcell
        have hz := HF0.out _ (List.getElem_mem hlt)
        have HT := Lib.hid (uintsL_next hlt)
        have CR := Lib.hid fun W => rUint_any zs[k].toNat W (by omega)
        rw [Int.toNat_of_nonneg hz.1] at CR
        have CX := Lib.hid fun W => CUT.out zs[k] W hz.1 hz.2
        have CY := Lib.hid fun W => rUnturn_any zs[k] W hz.1 hz.2
        have CZ : Hid (∀ W, Calls Try.prog 12 #[.int .i64 (unturnI zs[k])] W fun e w' => e = .returned (.int .u64 zs[k]) ∧ Below W.heap.size W w') := Lib.hid fun W => by
          have := CTU.out (unturnI zs[k]) W (unturn_fits hz.1 hz.2)
          rwa [turn_unturn hz.1] at this
        have HLL : Hid ((uintsL (zs.take k)).length ≤ 2000) := Lib.hid (by
          have h1 := uintsL_len (zs := zs.take k) fun z hz => HF0.out z (List.mem_of_mem_take hz)
          have h2 : (zs.take k).length ≤ k := List.length_take_le _ _
          omega)
        have HLX : Hid ((lebL zs[k].toNat).length ≤ 10) := Lib.hid (leb_ten (by omega))
        have c1 := HC.out _ hB
        have i0' : (0 : Int) ≤ (k : Int) := by omega
        have i1' : (k : Int) < (zs.length : Int) := by omega
        clear hcell hz
        generalize zs[k] = z at *
        generalize uintsL (zs.take k) = xs at *
        generalize unturnI z = uz at *
        go_wp2_with fail
        refine (CR.out _).mono ?_; rintro e w2 ⟨u, rfl, hOu, hb⟩
        have hO2 := hO.keep hb
        have hB2 := ext_step hB hb
        obtain ⟨Au, cu, rfl⟩ := hOu.val
        have HSrc := Lib.hid (hOu.lst.src fun _ _ => rfl)
        go_wp2_with (at_builtin; go_must (refine wpList_append_src _ rfl (.tmp 31) (.tmp 36) 26 rfl w.heap.size 5 i0 (.int .u8 0) Try.underlying26 hi hz0 hz1 1 hz2 rfl _ xs.length (xs.map (Value.int .u8)) rfl hO2 Au cu _ rfl HSrc.out (by have := HLL.out; have := HLX.out; unfold maxLen; omega) (by have := HLL.out; have := HLX.out; omega) hB2.size ?_); intro v2 w3 hown3 hgrow3)
        obtain ⟨hO3, hbj⟩ := hO2.join hB2.size hown3 hgrow3
        have hB3 := hB2.trans hbj
        rw [← HT.out] at hO3
        clear hown3 hgrow3 hbj hO hO2 hB hB2 hb hOu c1
        have hB4 : Below w.heap.size w w3.drew := ext_drew hB3
        have hO4 := hO3.drew
        go_region_held3 (fun w' => w'.cell? (ad.add k) = some (.int .u64 z)) (first | exact HC.out _ hB4 | exact HC.out _ hB3)
          (first
            | (go_at_call 10; refine (CX.out _).mono ?_; rintro e wa ⟨rfl, hq⟩; have hB4 := ext_step hB4 ⟨hq.os, hq.tape, hq.output, hq.size, hq.block⟩; have hO4 := hO4.keep ⟨hq.os, hq.tape, hq.output, hq.size, hq.block⟩; clear hq)
            | (go_at_call 11; refine (CY.out _).mono ?_; rintro e wb ⟨rfl, rfl⟩)
            | (go_at_call 12; refine (CZ.out _).mono ?_; rintro e wc ⟨rfl, hq⟩; have hB4 := ext_step hB4 ⟨hq.os, hq.tape, hq.output, hq.size, hq.block⟩; have hO4 := hO4.keep ⟨hq.os, hq.tape, hq.output, hq.size, hq.block⟩; clear hq))
        all_goals
          go_wp2_with fail
          go_roundw
          case rel => exact ⟨k + 1, hlt, by go_num, hO4, hB4⟩
          case measure => simp [intOf]; omega
      · obtain rfl : k = zs.length := by omega
        rw [List.take_length] at hO
        generalize wr = wx at *
        have HLx := Lib.hid hO.lst
        have hO : Owned 5 .u8 (wx.alloc (.cells #[] 5)) wx.heap.size (.slice (some ⟨wx.heap.size, 0, none⟩) 0 0) (intsL (ys.take 0)) := owned_empty _ wx _ (Nat.le_refl _)
        have hBx := below_new wx (.cells #[] 5)
        clear hk hlt
        go_wp2_with fail
        generalize wx.alloc (.cells #[] 5) = W2 at *
        go_loopw [9, 10] (fun y i wr => ∃ k : Nat, k ≤ ys.length ∧ i = .int .i64 k ∧ Owned 5 .u8 wr wx.heap.size y (intsL (ys.take k)) ∧ Below wx.heap.size wx wr) (fun _ i _ => ys.length - (intOf i).toNat)
        case atStart => exact ⟨0, Nat.zero_le _, rfl, hO, hBx⟩
        case round =>
          clear hO hBx
          obtain ⟨k, hk, rfl, hO, hBx⟩ := hrel
          by_cases hlt : k < ys.length
          · obtain ⟨ad, rfl, hab, hcell⟩ := HL1.out.at_ hlt
            have HC : Hid (∀ W, Below wx.heap.size wx W → W.cell? (ad.add k) = some (.int .i64 ys[k])) := Lib.hid fun W h => ((ext_step hB h).cell (by rw [block_of_add]; exact hab)).trans hcell
            have hz := HF1.out _ (List.getElem_mem hlt)
            have HT := Lib.hid (intsL_next hlt)
            have CR := Lib.hid fun W => rInt_any ys[k] W hz
            have CX := Lib.hid fun W => CTU.out ys[k] W hz
            have CY := Lib.hid fun W => rTurn_any ys[k] W hz
            have HLL : Hid ((intsL (ys.take k)).length ≤ 2000) := Lib.hid (by
              have h1 := intsL_len (zs := ys.take k) fun z hz => HF1.out z (List.mem_of_mem_take hz)
              have h2 : (ys.take k).length ≤ k := List.length_take_le _ _
              omega)
            have HLX : Hid ((lebL (turnI ys[k]).toNat).length ≤ 10) := Lib.hid (leb_ten (by have := turn_bd hz; omega))
            have c1 := HC.out _ hBx
            have i0' : (0 : Int) ≤ (k : Int) := by omega
            have i1' : (k : Int) < (ys.length : Int) := by omega
            clear hcell hz
            generalize ys[k] = z at *
            generalize intsL (ys.take k) = xs at *
            generalize turnI z = uz at *
            go_wp2_with fail
            refine (CR.out _).mono ?_; rintro e w2 ⟨u, rfl, hOu, hb⟩
            have hO2 := hO.keep hb
            have hB2 := ext_step hBx hb
            obtain ⟨Au, cu, rfl⟩ := hOu.val
            have HSrc := Lib.hid (hOu.lst.src fun _ _ => rfl)
            go_wp2_with (at_builtin; go_must (refine wpList_append_src _ rfl (.tmp 69) (.tmp 74) 26 rfl wx.heap.size 5 i0 (.int .u8 0) Try.underlying26 hi hz0 hz1 1 hz2 rfl _ xs.length (xs.map (Value.int .u8)) rfl hO2 Au cu _ rfl HSrc.out (by have := HLL.out; have := HLX.out; unfold maxLen; omega) (by have := HLL.out; have := HLX.out; omega) hB2.size ?_); intro v2 w3 hown3 hgrow3)
            obtain ⟨hO3, hbj⟩ := hO2.join hB2.size hown3 hgrow3
            have hB3 := hB2.trans hbj
            rw [← HT.out] at hO3
            clear hown3 hgrow3 hbj hO hO2 hBx hB2 hb hOu c1
            have hB4 : Below wx.heap.size wx w3.drew := ext_drew hB3
            have hO4 := hO3.drew
            go_region_held3 (fun w' => w'.cell? (ad.add k) = some (.int .i64 z)) (first | exact HC.out _ hB4 | exact HC.out _ hB3)
              (first
                | (go_at_call 14; refine (CY.out _).mono ?_; rintro e wb ⟨rfl, rfl⟩)
                | (go_at_call 12; refine (CX.out _).mono ?_; rintro e wc ⟨rfl, hq⟩; have hB4 := ext_step hB4 ⟨hq.os, hq.tape, hq.output, hq.size, hq.block⟩; have hO4 := hO4.keep ⟨hq.os, hq.tape, hq.output, hq.size, hq.block⟩; clear hq))
            all_goals
              go_wp2_with fail
              go_roundw
              case rel => exact ⟨k + 1, hlt, by go_num, hO4, hB4⟩
              case measure => simp [intOf]; omega
          · obtain rfl : k = ys.length := by omega
            rw [List.take_length] at hO
            generalize wr = wy at *
            have HLy := Lib.hid hO.lst
            have HBy := Lib.hid hBx
            have hO : Owned 5 .u8 (wy.alloc (.cells #[] 5)) wy.heap.size (.slice (some ⟨wy.heap.size, 0, none⟩) 0 0) (textsL (ss.take 0)) := owned_empty _ wy _ (Nat.le_refl _)
            have hBz := below_new wy (.cells #[] 5)
            clear hk hlt hBx
            go_wp2_with fail
            generalize wy.alloc (.cells #[] 5) = W3 at *
            go_loopw [11, 12] (fun z i wr => ∃ k : Nat, k ≤ ss.length ∧ i = .int .i64 k ∧ Owned 5 .u8 wr wy.heap.size z (textsL (ss.take k)) ∧ Hid (∀ j (h : j < ss.length), j < k → ss[j].size ≤ 1000) ∧ Below wy.heap.size wy wr) (fun _ i _ => ss.length - (intOf i).toNat)
            case atStart => exact ⟨0, Nat.zero_le _, rfl, hO, Lib.hid fun j _ h => absurd h (by omega), hBz⟩
            case round =>
              clear hO hBz
              obtain ⟨k, hk, rfl, hO, hall, hBz⟩ := hrel
              by_cases hlt : k < ss.length
              · obtain ⟨ad, rfl, hab, hcell⟩ := HL2.out.at_ hlt
                have HC : Hid (∀ W, Below wy.heap.size wy W → W.cell? (ad.add k) = some (.string ss[k])) := Lib.hid fun W h => ((ext_step hB (ext_step HBy.out h)).cell (by rw [block_of_add]; exact hab)).trans hcell
                have c1 := HC.out _ hBz
                have i0' : (0 : Int) ≤ (k : Int) := by omega
                have i1' : (k : Int) < (ss.length : Int) := by omega
                by_cases hbig : 1000 < ss[k].size
                · have h9 : (1000 : Int) < (ss[k].size : Int) := by omega
                  clear hcell hbig
                  generalize ss[k] = s at *
                  go_wp2_with fail
                  go_ret
                  exact ⟨rfl, ext_step hB (ext_step HBy.out hBz)⟩
                · have h9 : ¬ (1000 : Int) < (ss[k].size : Int) := by omega
                  have HT := Lib.hid (textsL_next hlt)
                  have CR := Lib.hid fun W => rText_any ss[k] W (by omega)
                  have hall' : Hid (∀ j (h : j < ss.length), j < k + 1 → ss[j].size ≤ 1000) := Lib.hid fun j hj hjk => by
                    by_cases e : j = k
                    · subst e; omega
                    · exact hall.out j hj (by omega)
                  have HLL : Hid ((textsL (ss.take k)).length ≤ 202000) := Lib.hid (by
                    have h1 := textsL_len (m := 1000) (ss := ss.take k) (by decide) fun s hs => by
                      obtain ⟨j, hj, rfl⟩ := List.getElem_of_mem hs
                      rw [List.length_take] at hj
                      rw [List.getElem_take]
                      exact hall.out j (by omega) (by omega)
                    have h2 : (ss.take k).length ≤ k := List.length_take_le _ _
                    omega)
                  have HLX : Hid ((txtL ss[k]).length ≤ 1010) := Lib.hid (txtL_len (by omega) (by decide))
                  clear hcell hbig hall
                  generalize ss[k] = s at *
                  generalize textsL (ss.take k) = xs at *
                  go_wp2_with fail
                  refine (CR.out _).mono ?_; rintro e w2 ⟨u, rfl, hOu, hb⟩
                  have hO2 := hO.keep hb
                  have hB2 := ext_step hBz hb
                  obtain ⟨Au, cu, rfl⟩ := hOu.val
                  have HSrc := Lib.hid (hOu.lst.src fun _ _ => rfl)
                  go_wp2_with (at_builtin; go_must (refine wpList_append_src _ rfl (.tmp 100) (.tmp 105) 26 rfl wy.heap.size 5 i0 (.int .u8 0) Try.underlying26 hi hz0 hz1 1 hz2 rfl _ xs.length (xs.map (Value.int .u8)) rfl hO2 Au cu _ rfl HSrc.out (by have := HLL.out; have := HLX.out; unfold maxLen; omega) (by have := HLL.out; have := HLX.out; omega) hB2.size ?_); intro v2 w3 hown3 hgrow3)
                  obtain ⟨hO3, hbj⟩ := hO2.join hB2.size hown3 hgrow3
                  have hB3 := hB2.trans hbj
                  rw [← HT.out] at hO3
                  clear hown3 hgrow3 hbj hO hO2 hBz hB2 hb hOu c1
                  go_roundw
                  case rel => exact ⟨k + 1, hlt, by go_num, hO3, hall', hB3⟩
                  case measure => simp [intOf]; omega
              · obtain rfl : k = ss.length := by omega
                rw [List.take_length] at hO
                have hsz : ∀ s ∈ ss, s.size ≤ 1000 := fun s hs => by
                  obtain ⟨j, hj, rfl⟩ := List.getElem_of_mem hs
                  exact hall.out j hj hj
                have HLz := Lib.hid hO.lst
                have hBq := ext_step hB (ext_step HBy.out hBz)
                have HZX := Lib.hid (((HLx.out.below HBy.out).below (hBz.mono HBy.out.size)).more (Nat.le_trans HBy.out.size hBz.size))
                have HZY := Lib.hid ((HLy.out.below hBz).more hBz.size)
                have n1 : (uintsL zs).length ≤ 1000000 := by have := uintsL_len HF0.out; omega
                have n2 : (intsL ys).length ≤ 1000000 := by have := intsL_len HF1.out; omega
                have n3 : (textsL ss).length ≤ 1000000 := by have := textsL_len (m := 1000) (by decide) hsz; omega
                have CU1 := Lib.hid (CU.out wr hBq)
                have CT1 := Lib.hid fun W h => CT.out W h hsz
                clear hO hB hBz hall hsz
                go_wp2_with fail
                refine (CU1.out).mono ?_; rintro e w4 ⟨r1, rfl, hO1, hb⟩
                have hB4 := ext_step hBq hb
                have CS := Lib.hid (sameBytes_any _ _ _ w4 hO1.lst ((HZX.out.below hb).more hb.size) n1)
                have HZY4 := Lib.hid ((HZY.out.below hb).more hb.size)
                have HLz4 := Lib.hid ((HLz.out.below hb).more hb.size)
                clear hO1 hb hBq CU1 HZX HZY HLz
                go_wp2_with fail
                refine (CS.out).mono ?_; rintro e w5 ⟨rfl, m5, hw⟩
                have hB5 := ext_drewN' hB4 hw
                have HZY5 : Hid (Lst w5 w5.heap.size .u8 _ _) := Lib.hid (by rw [← hw]; exact HZY4.out)
                have HLz5 : Hid (Lst w5 w5.heap.size .u8 _ _) := Lib.hid (by rw [← hw]; exact HLz4.out)
                have CI1 := Lib.hid (CI.out w5 hB5)
                clear hw hB4 CS HZY4 HLz4
                go_wp2_with fail
                refine (CI1.out).mono ?_; rintro e w6 ⟨r2, rfl, hO1, hb⟩
                have hB6 := ext_step hB5 hb
                have CS := Lib.hid (sameBytes_any _ _ _ w6 hO1.lst ((HZY5.out.below hb).more hb.size) n2)
                have HLz6 := Lib.hid ((HLz5.out.below hb).more hb.size)
                clear hO1 hb hB5 CI1 HZY5 HLz5
                go_wp2_with fail
                refine (CS.out).mono ?_; rintro e w7 ⟨rfl, m7, hw⟩
                have hB7 := ext_drewN' hB6 hw
                have HLz7 : Hid (Lst w7 w7.heap.size .u8 _ _) := Lib.hid (by rw [← hw]; exact HLz6.out)
                have CT2 := Lib.hid (CT1.out w7 hB7)
                clear hw hB6 CS HLz6 CT1
                go_wp2_with fail
                refine (CT2.out).mono ?_; rintro e w8 ⟨r3, rfl, hO1, hb⟩
                have hB8 := ext_step hB7 hb
                have CS := Lib.hid (sameBytes_any _ _ _ w8 hO1.lst ((HLz7.out.below hb).more hb.size) n3)
                clear hO1 hb hB7 CT2 HLz7
                go_wp2_with fail
                refine (CS.out).mono ?_; rintro e w9 ⟨rfl, m9, hw⟩
                have hB9 := ext_drewN' hB8 hw
                clear hw CS hB8
                go_wp2_with fail
                go_ret
                exact ⟨rfl, hB9⟩
end Go.Proofs.Ytcihojimojipiaa
