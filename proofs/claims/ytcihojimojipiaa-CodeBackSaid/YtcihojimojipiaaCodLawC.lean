/- CodeBack, walked. -/
import Derived.Test.YtcihojimojipiaaCodT
import Derived.Test.YtcihojimojipiaaCopyBytes
namespace Go.Proofs.Ytcihojimojipiaa
open Go.RowKit
variable {Rd : World → Nat → Nat → Nat → List Int → Int → Prop}

theorem uintsL_byte (zs : List Int) : IsByte (uintsL zs) := fun c hc => by
  obtain ⟨z, -, hz⟩ := List.mem_flatMap.1 hc
  exact leb_byte _ c hz
theorem intsL_byte (zs : List Int) : IsByte (intsL zs) := fun c hc => by
  obtain ⟨z, -, hz⟩ := List.mem_flatMap.1 hc
  exact leb_byte _ c hz
theorem textsL_byte (ss : List ByteArray) : IsByte (textsL ss) := fun c hc => by
  obtain ⟨s, -, hs⟩ := List.mem_flatMap.1 hc
  rcases List.mem_append.1 hs with h | h
  · exact leb_byte _ c h
  · exact strB_byte s c h
theorem app_byte {a b : List Int} (ha : IsByte a) (hb : IsByte b) : IsByte (a ++ b) := fun c hc => by
  rcases List.mem_append.1 hc with h | h
  · exact ha c h
  · exact hb c h
theorem take_byte {a : List Int} (ha : IsByte a) (n : Nat) : IsByte (a.take n) := fun c hc => ha c (List.mem_of_mem_take hc)

set_option maxRecDepth 100000 in
set_option maxHeartbeats 8000000 in
theorem codeBack_any (G : CodeC Rd) (v0 v1 v2 : Value) (zs ys : List Int) (ss : List ByteArray) (cut : Int) (w : World) (L0 : Lst w w.heap.size .u64 v0 zs) (F0 : ∀ z ∈ zs, 0 ≤ z ∧ z < 18446744073709551616)
    (L1 : Lst w w.heap.size .i64 v1 ys) (F1 : ∀ z ∈ ys, Fits z) (L2 : LstS w w.heap.size v2 ss) (_hc : Fits cut) (B0 : zs.length ≤ 140737488355328) (B1 : ys.length ≤ 140737488355328) (B2 : ss.length ≤ 140737488355328) :
    Calls Try.prog 5 #[v0, v1, v2, .int .i64 cut] w fun e w' => e = .returned (.bool true) ∧ Below w.heap.size w w' := by
  obtain ⟨A0, c0, rfl⟩ := L0.len
  obtain ⟨A1, c1, rfl⟩ := L1.len
  obtain ⟨A2, c2, rfl⟩ := L2.len
  obtain ⟨i0, hi, hz0, hz1, hz2⟩ := info_parts byte_info
  have C0 := Lib.hid (alive6_any G w)
  have b0 : (zs.length : Int) ≤ 140737488355328 := by omega
  have b1 : (ys.length : Int) ≤ 140737488355328 := by omega
  have b2 : (ss.length : Int) ≤ 140737488355328 := by omega
  by_cases hlen : 100 < zs.length + ys.length + ss.length
  · have h1 : (100 : Int) < (zs.length : Int) + (ys.length : Int) + (ss.length : Int) := by omega
    clear G L0 L1 L2 F0 F1
    go_enter Try.func5, Try.ntmps5
    go_wp2_with fail
    refine (C0.out).mono ?_; rintro e w1 ⟨rfl, hB⟩
    go_wp2_with fail
    go_ret
    exact ⟨rfl, hB⟩
  · have h1 : ¬ (100 : Int) < (zs.length : Int) + (ys.length : Int) + (ss.length : Int) := by omega
    have l0 : zs.length ≤ 100 := by omega
    have l1 : ys.length ≤ 100 := by omega
    have l2 : ss.length ≤ 100 := by omega
    have HL0 := Lib.hid L0
    have HL1 := Lib.hid L1
    have HL2 := Lib.hid L2
    have CU := Lib.hid fun W (h : Below w.heap.size w W) => G.uints _ zs W ((L0.below h).more h.size) F0 (by omega)
    have CI := Lib.hid fun W (h : Below w.heap.size w W) => G.ints _ ys W ((L1.below h).more h.size) F1 (by omega)
    have CT := Lib.hid fun W (h : Below w.heap.size w W) (hs : ∀ s ∈ ss, s.size ≤ 300) => G.texts _ ss W ((L2.below h).more h.size) (fun s hsx => Nat.le_trans (hs s hsx) (by decide)) (by omega)
    have TD := Lib.hid fun (W : World) (good : Bool) g L U bs (hs : ∀ s ∈ ss, s.size ≤ 300) (h : Below w.heap.size w W) (hL : w.heap.size ≤ L) hR hby hln hI => told6_any G good g L U bs _ _ _ zs ys ss W w.heap.size hL h.size hR hby hln hI (L0.below h) F0 (L1.below h) F1 (L2.below h) hs l0 l1 l2
    have hu := uintsL_len F0
    have hin := intsL_len F1
    have HG := Lib.hid G
    clear G L0 L1 L2 F0 F1 hlen B0 B1 B2
    go_enter Try.func5, Try.ntmps5
    go_wp2_with fail
    refine (C0.out).mono ?_; rintro e w1 ⟨rfl, hB⟩
    clear C0
    go_wp2_with fail
    go_loop [9] (fun i => ∃ k : Nat, k ≤ ss.length ∧ i = .int .i64 k ∧ Hid (∀ j (h : j < ss.length), j < k → ss[j].size ≤ 300)) (fun i => ss.length - (intOf i).toNat)
    case atStart => exact ⟨0, Nat.zero_le _, rfl, Lib.hid fun j _ h => absurd h (by omega)⟩
    case round =>
      obtain ⟨k, hk, rfl, hall⟩ := hrel
      by_cases hlt : k < ss.length
      · obtain ⟨ad, rfl, hab, hcell⟩ := HL2.out.at_ hlt
        have c1 : w1.cell? (ad.add k) = some (.string ss[k]) := (hB.cell (by rw [block_of_add]; exact hab)).trans hcell
        have i0' : (0 : Int) ≤ (k : Int) := by omega
        have i1' : (k : Int) < (ss.length : Int) := by omega
        by_cases hbig : 300 < ss[k].size
        · have h9 : (300 : Int) < (ss[k].size : Int) := by omega
          clear hcell hbig
          generalize ss[k] = s at *
          go_wp2_with fail
          go_ret
          exact ⟨rfl, hB⟩
        · have h9 : ¬ (300 : Int) < (ss[k].size : Int) := by omega
          have hall' : Hid (∀ j (h : j < ss.length), j < k + 1 → ss[j].size ≤ 300) := Lib.hid fun j hj hjk => by
            by_cases e : j = k
            · subst e; omega
            · exact hall.out j hj (by omega)
          clear hcell hbig hall
          generalize ss[k] = s at *
          go_wp2_with fail
          go_round
          case rel => exact ⟨k + 1, hlt, by go_num, hall'⟩
          case measure => simp [intOf]; omega
      · obtain rfl : k = ss.length := by omega
        have hsz : ∀ s ∈ ss, s.size ≤ 300 := fun s hs => by
          obtain ⟨j, hj, rfl⟩ := List.getElem_of_mem hs
          exact hall.out j hj hj
        have ht := textsL_len (m := 300) (by decide) hsz
        have CT1 := Lib.hid fun W h => CT.out W h hsz
        have TD1 := Lib.hid fun W good g L U bs => TD.out W good g L U bs hsz
        clear hall hk hlt hsz CT TD
        have CU1 := Lib.hid (CU.out w1 hB)
        clear CU
        have HI : Hid (∀ n, InvT true (uintsL zs ++ (intsL ys ++ textsL ss)) (uintsL zs ++ intsL ys ++ textsL ss) 0 true ∧ (n < (uintsL zs ++ intsL ys ++ textsL ss).length → InvT false (uintsL zs ++ (intsL ys ++ textsL ss)) ((uintsL zs ++ intsL ys ++ textsL ss).take n) 0 true)) := Lib.hid fun n => by
          rw [List.append_assoc]
          exact ⟨Or.inl ⟨rfl, rfl, rfl, rfl⟩, fun h => Or.inr ⟨rfl, Or.inr ⟨rfl, n, h, rfl⟩⟩⟩
        have HBy : Hid (IsByte (uintsL zs ++ intsL ys ++ textsL ss)) := Lib.hid (app_byte (app_byte (uintsL_byte zs) (intsL_byte ys)) (textsL_byte ss))
        generalize uintsL zs = X at *
        generalize intsL ys = Y at *
        generalize textsL ss = Z at *
        go_wp2_with fail
        refine (CU1.out).mono ?_; rintro e w2 ⟨r1, rfl, hO1, hb⟩
        have hB2 := ext_step hB hb
        have CI1 := Lib.hid (CI.out w2 hB2)
        clear CU1 CI
        go_wp2_with fail
        refine (CI1.out).mono ?_; rintro e w3 ⟨r2, rfl, hO2, hb3⟩
        have hB3 := ext_step hB2 hb3
        have hO1' := hO1.keep hb3
        obtain ⟨Au, cu, rfl⟩ := hO2.val
        have HSrc := Lib.hid (hO2.lst.src fun _ _ => rfl)
        have hszz : w1.heap.size ≤ w3.heap.size := Nat.le_trans hb.size hb3.size
        clear CI1 hO1
        go_wp2_with (at_builtin; go_must (refine wpList_append_src _ rfl (.tmp 36) (.tmp 38) 26 rfl w1.heap.size 5 i0 (.int .u8 0) Try.underlying26 hi hz0 hz1 1 hz2 rfl _ X.length (X.map (Value.int .u8)) rfl hO1' Au cu _ rfl HSrc.out (by unfold maxLen; omega) (by omega) hszz ?_); intro v4 w4 hown4 hgrow4)
        obtain ⟨hO4, hbj⟩ := hO1'.join hszz hown4 hgrow4
        have hB4 := hB3.trans (hbj.mono hB.size)
        have hsz4 : w1.heap.size ≤ w4.heap.size := Nat.le_trans hszz hbj.size
        have CT2 := Lib.hid (CT1.out w4 hB4)
        clear hown4 hgrow4 hbj hO1' hO2 HSrc hb hb3 hB3 hB2 hszz CT1
        go_wp2_with fail
        refine (CT2.out).mono ?_; rintro e w5 ⟨r5, rfl, hO5, hb5⟩
        have hB5 := ext_step hB4 hb5
        have hO4' := hO4.keep hb5
        obtain ⟨Au5, cu5, rfl⟩ := hO5.val
        have HSrc := Lib.hid (hO5.lst.src fun _ _ => rfl)
        have hsz5 : w1.heap.size ≤ w5.heap.size := Nat.le_trans hsz4 hb5.size
        have hlXY : (X ++ Y).length = X.length + Y.length := List.length_append
        clear CT2 hO4
        go_wp2_with (at_builtin; go_must (refine wpList_append_src _ rfl (.tmp 39) (.tmp 41) 26 rfl w1.heap.size 5 i0 (.int .u8 0) Try.underlying26 hi hz0 hz1 1 hz2 rfl _ (X ++ Y).length ((X ++ Y).map (Value.int .u8)) rfl hO4' Au5 cu5 _ rfl HSrc.out (by unfold maxLen; omega) (by omega) hsz5 ?_); intro v6 w6 hown6 hgrow6)
        obtain ⟨hO6, hbj⟩ := hO4'.join hsz5 hown6 hgrow6
        have hB6 := hB5.trans (hbj.mono hB.size)
        have HL6 := Lib.hid hO6.lst
        have hl6 : (X ++ Y ++ Z).length ≤ 1000000 := by rw [List.length_append, List.length_append]; omega
        obtain ⟨Aa, ca, rfl⟩ := hO6.val
        have hcap : (X ++ Y ++ Z).length ≤ ca := by obtain ⟨_, _, e, h, _⟩ := HL6.out; injection e with _ _ e; omega
        have CC := Lib.hid (copyBytes_any _ _ w6 HL6.out hl6)
        clear hown6 hgrow6 hbj hO4' hO5 hO6 HSrc hb5 hB5 hB4 hsz4 hsz5 hlXY
        generalize X ++ Y ++ Z = T at *
        go_wp2_with fail
        refine (CC.out).mono ?_; rintro e w7 ⟨u7, rfl, hO7, hb7⟩
        have hB7 := ext_step hB6 hb7
        have CN := Lib.hid (HG.out.new _ T w7 hO7.lst HBy.out hl6)
        clear CC hO7
        go_wp2_with fail
        refine (CN.out).mono ?_; rintro e w8 ⟨g, rfl, hR8, hb8⟩
        have hB8 := ext_step hB7 hb8
        have CTd := Lib.hid (TD1.out w8 true g _ _ T hB8 hB7.size hR8 HBy.out hl6 (HI.out 0).1)
        clear CN hR8
        go_wp2_with fail
        refine (CTd.out).mono ?_; rintro e w9 ⟨rfl, hA9, -⟩
        have hB9 := ext_aside hB8 hA9 hB7.size
        have HL9 := Lib.hid (((HL6.out.below hb7).below (hb8.mono hb7.size)).below (hA9.below hb7.size (Nat.le_trans hb7.size hb8.size)))
        have hs9 : w6.heap.size ≤ w9.heap.size := Nat.le_trans hb7.size (Nat.le_trans hb8.size hA9.size)
        clear CTd hA9 hB8 hB7 hB6 hb7 hb8 HL6
        by_cases hc0 : cut < 0
        · go_wp2_with fail
          go_ret
          exact ⟨rfl, hB9⟩
        · obtain ⟨n, rfl⟩ := Int.eq_ofNat_of_zero_le (show 0 ≤ cut by omega)
          by_cases hc1 : T.length ≤ n
          · have hc2 : (T.length : Int) ≤ (n : Int) := by omega
            go_wp2_with fail
            go_ret
            exact ⟨rfl, hB9⟩
          · have hc2 : ¬ (T.length : Int) ≤ (n : Int) := by omega
            have n0 : (0 : Int) ≤ (n : Int) := by omega
            have hcap2 : (n : Int) ≤ (ca : Int) := by omega
            have HLc := Lib.hid ((HL9.out.cut (m := n) (by omega)).more hs9)
            have hlt : (T.take n).length = n := by rw [List.length_take]; omega
            have HI2 := Lib.hid ((HI.out n).2 (by omega))
            have HBy2 := Lib.hid (take_byte HBy.out n)
            have CC := Lib.hid (copyBytes_any _ _ w9 HLc.out (by omega))
            have hl7 : (T.take n).length ≤ 1000000 := by omega
            clear HI HBy HL9 hl6 hc1 hlt hcap
            generalize T.take n = T2 at *
            go_wp2_with fail
            refine (CC.out).mono ?_; rintro e w10 ⟨u10, rfl, hO10, hb10⟩
            have hB10 := ext_step hB9 hb10
            have CN := Lib.hid (HG.out.new _ T2 w10 hO10.lst HBy2.out hl7)
            clear CC hO10 hB9 hb10
            go_wp2_with fail
            refine (CN.out).mono ?_; rintro e w11 ⟨g2, rfl, hR11, hb11⟩
            have hB11 := ext_step hB10 hb11
            have CTd := Lib.hid (TD1.out w11 false g2 _ _ T2 hB11 hB10.size hR11 HBy2.out hl7 HI2.out)
            clear CN hR11 hb11
            go_wp2_with fail
            refine (CTd.out).mono ?_; rintro e w12 ⟨rfl, hA12, bs', hR12⟩
            have hB12 := ext_aside hB11 hA12 hB10.size
            have CE := Lib.hid (HG.out.err _ _ _ _ _ _ hR12)
            clear CTd hA12 hR12 hB11 hB10
            go_wp2_with fail
            refine (CE.out).mono ?_; rintro e w13 ⟨rfl, hb13⟩
            have hB13 := ext_step hB12 hb13
            go_wp2_with fail
            go_ret
            exact ⟨rfl, hB13⟩
end Go.Proofs.Ytcihojimojipiaa
