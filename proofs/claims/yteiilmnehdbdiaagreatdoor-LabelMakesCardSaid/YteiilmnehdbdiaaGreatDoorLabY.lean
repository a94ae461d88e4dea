/- noonmarkref08's Bytes, walked. -/
import Derived.Test.YteiilmnehdbdiaaGreatDoorLabR
import Derived.Test.YteiilmnehdbdiaaGreatDoorLabQ
import Derived.Test.YteiilmnehdbdiaaGreatDoorLabO
import Derived.Test.YteiilmnehdbdiaaGreatDoorCodU
import Derived.Test.YteiilmnehdbdiaaGreatDoorPost
namespace Go.Proofs.YteiilmnehdbdiaaGreatDoor
open Go.RowKit

theorem labsL_app : ∀ (a b : List Lab), labsL (a ++ b) = labsL a ++ labsL b
  | [], b => rfl
  | l :: t, b => by rw [List.cons_append, labsL, labsL, labsL_app t b]; simp
theorem labsL_next {x : List Lab} {k : Nat} (h : k < x.length) : labsL (x.take (k + 1)) = (labsL (x.take k) ++ txtL x[k].1) ++ txtL x[k].2 := by
  rw [List.take_succ_eq_append_getElem h, labsL_app]
  simp [labsL]
theorem txtL_len (s : ByteArray) (h : s.size ≤ 1000000) : (txtL s).length ≤ s.size + 10 := by
  unfold txtL
  rw [List.length_append, strB_len]
  have := leb_ten (n := s.size) (by omega)
  omega
theorem labsL_len : ∀ (x : List Lab), (∀ l ∈ x, l.1.size ≤ 64 ∧ l.2.size ≤ 64) → (labsL x).length ≤ 148 * x.length
  | [], _ => Nat.le_refl _
  | l :: t, h => by
    have h1 := h l (List.mem_cons_self ..)
    have h2 := labsL_len t fun m hm => h m (List.mem_cons_of_mem _ hm)
    have h3 := txtL_len l.1 (by omega)
    have h4 := txtL_len l.2 (by omega)
    rw [labsL, List.length_append, List.length_append, List.length_cons]
    omega
def bytesI (n : ByteArray) (x : List Lab) : List Int := if IsRight n x then bytesL n x else []
/-- What a call made, over a world that has grown. -/
theorem Owned.src_ {t : TypeId} {k : IntKind} {w w' : World} {B : Nat} {A : Option Addr} {n c : Nat} {zs : List Int} (h : Owned t k w B (.slice A n c) zs) (hk : Below w.heap.size w w') : Src w' k A zs := h.lst.src fun _ hp => hk.cell hp

set_option maxRecDepth 100000 in
set_option maxHeartbeats 4000000 in
theorem rBytes8_any (n : ByteArray) (u : Value) (x : List Lab) (w : World) (hx : Labs w w.heap.size u x) (hn : n.size ≤ 1000000) (hz : ∀ l ∈ x, l.1.size ≤ 1000000 ∧ l.2.size ≤ 1000000) :
    Calls Tryz.prog 20 #[.agg #[.string n, u]] w (Copied 5 .u8 w (bytesI n x)) := by
  obtain ⟨ib, hi, hz0, hz1, hz2⟩ := info_parts byte_info
  obtain ⟨A0, c0, rfl⟩ := hx.len
  have hW : Below w.heap.size w (w.alloc (.cells #[.string n, .slice A0 x.length c0] 32)) := grew1 w _
  have aS := At2.new w (.string n) (.slice A0 x.length c0) 32
  have LX := Lib.hid (hx.below hW)
  have CR := Lib.hid (rRight8_any n _ x _ ((hx.below hW).more hW.size) hn hz)
  have hsz : w.heap.size + 1 ≤ (w.alloc (.cells #[.string n, .slice A0 x.length c0] 32)).heap.size := by simp
  clear hx hz
  obtain ⟨a0, a1, -, -⟩ := id aS
  by_cases hr : IsRight n x
  case neg =>
    have hE : Hid (bytesI n x = []) := Lib.hid (if_neg hr)
    rw [decide_eq_false hr] at CR
    clear hr
    go_enter Tryz.func20, Tryz.ntmps20
    go_wp2_with fail
    refine (CR.out).mono ?_; rintro e w1 ⟨rfl, h⟩
    have hB := hW.trans (h.mono hW.size)
    go_wp2_with fail
    go_ret
    exact ⟨_, rfl, by rw [hE.out]; exact ⟨rfl, .inl ⟨rfl, rfl⟩⟩, hB⟩
  have hE : Hid (bytesI n x = txtL n ++ (lebL x.length ++ labsL x)) := Lib.hid (if_pos hr)
  have hx8 : x.length ≤ 8 := hr.2.1
  have hn64 : n.size ≤ 64 := hr.1.2.1
  have HLS : Hid (∀ l ∈ x, l.1.size ≤ 64 ∧ l.2.size ≤ 64) := Lib.hid fun l hl => ⟨(hr.2.2.1 l hl).1.2.1, (hr.2.2.1 l hl).2.1⟩
  rw [decide_eq_true hr] at CR
  clear hr
  go_enter Tryz.func20, Tryz.ntmps20
  go_wp2_with fail
  refine (CR.out).mono ?_; rintro e w1 ⟨rfl, h⟩
  have hB := hW.trans (h.mono hW.size)
  have aS := aS.below h
  have LX := Lib.hid (LX.out.below (h.mono hW.size))
  have hsz1 := Nat.le_trans hsz h.size
  clear h a0 a1 hsz hW
  obtain ⟨a0, a1, -, -⟩ := id aS
  go_wp2_with fail
  have hT := txtL_len n (by omega)
  have hU := leb_ten (n := x.length) (by omega)
  have CT := Lib.hid fun W => rText_any n W (by omega)
  have CU := Lib.hid fun W => rUint_any x.length W (by omega)
  have hwl : IntKind.u64.wrap (x.length : Int) = (x.length : Int) := by rw [IntKind.wrap_u64]; omega
  have aS1 := aS.drew
  have hB1 := ext_drew hB
  replace hsz1 : w.heap.size + 1 ≤ w1.drew.heap.size := hsz1
  have LX1 : Hid (Labs w1.drew w.heap.size (.slice A0 x.length c0) x) := Lib.hid (LX.out.keep fun p hp => rfl)
  clear a0 a1
  refine wp_region_held_drew (S := fun w' => w'.cell? ⟨w.heap.size, 0, none⟩ = some (.string n) ∧ w'.cell? ⟨w.heap.size, 1, none⟩ = some (.slice A0 x.length c0)) (by kernel_rfl) ?_ (fun hHeld => ?_)
  · exact ⟨aS1.c0, aS1.c1⟩
  clear aS hB LX
  generalize w1.drew = v1 at *
  refine take_at (i := 0) (d := some 8) (v := ?_) rfl rfl (by kernel_rfl) (by kernel_rfl) (by kernel_rfl) (fun _ _ _ h => h) (Or.inl ⟨by rfl, ?hyb1⟩) (by assumption) ?restb1
  case hyb1 => (intro w hSw; (try dsimp only at hSw); go_simp; try with_reducible rfl)
  (try simp only [Act.put]); (try simp only [List.setIfInBounds_toArray]); (try simp only [List.set_cons_succ]); (try simp only [List.set_cons_zero])
  refine take_at (i := 1) (d := some 9) (v := ?_) rfl rfl (by kernel_rfl) (by kernel_rfl) (by kernel_rfl) (fun _ _ _ h => h) (Or.inl ⟨by rfl, ?hyb2⟩) (by assumption) ?restb2
  case hyb2 => (intro w hSw; (try dsimp only at hSw); go_simp; try with_reducible rfl)
  (try simp only [Act.put]); (try simp only [List.setIfInBounds_toArray]); (try simp only [List.set_cons_succ]); (try simp only [List.set_cons_zero])
  refine take_at (i := 3) (d := some 11) (v := ?_) rfl rfl (by kernel_rfl) (by kernel_rfl) (by kernel_rfl) (fun _ _ _ h => h) (Or.inl ⟨by rfl, ?hyb3⟩) (by assumption) ?restb3
  case hyb3 => (intro w hSw; (try dsimp only at hSw); go_simp; try with_reducible rfl)
  (try simp only [Act.put]); (try simp only [List.setIfInBounds_toArray]); (try simp only [List.set_cons_succ]); (try simp only [List.set_cons_zero])
  refine take_at (i := 4) (d := some 12) (v := ?_) rfl rfl (by kernel_rfl) (by kernel_rfl) (by kernel_rfl) (fun _ _ _ h => h) (Or.inl ⟨by rfl, ?hyb4⟩) (by assumption) ?restb4
  case hyb4 => (intro w hSw; (try dsimp only at hSw); go_simp; try with_reducible rfl)
  (try simp only [Act.put]); (try simp only [List.setIfInBounds_toArray]); (try simp only [List.set_cons_succ]); (try simp only [List.set_cons_zero])
  refine take_at (i := 5) (d := some 13) (v := ?_) rfl rfl (by kernel_rfl) (by kernel_rfl) (by kernel_rfl) (fun _ _ _ h => h) (Or.inl ⟨by rfl, ?hyb5⟩) (by assumption) ?restb5
  case hyb5 => (intro w hSw; (try dsimp only at hSw); go_simp; try with_reducible rfl)
  (try simp only [Act.put]); (try simp only [List.setIfInBounds_toArray]); (try simp only [List.set_cons_succ]); (try simp only [List.set_cons_zero])
  refine take_at (i := 6) (d := some 14) (v := ?_) rfl rfl (by kernel_rfl) (by kernel_rfl) (by kernel_rfl) (fun _ _ _ h => h) (Or.inl ⟨by rfl, ?hyb6⟩) (by assumption) ?restb6
  case hyb6 => (intro w hSw; (try dsimp only at hSw); go_simp; try with_reducible rfl)
  (try simp only [Act.put]); (try simp only [List.setIfInBounds_toArray]); (try simp only [List.set_cons_succ]); (try simp only [List.set_cons_zero])
  refine wpAnyH_ready (rs := [2]) (by kernel_rfl) (by simp) ?_
  refine AllReadyH.cons rfl (fun K hK => ?_) AllReadyH.nil
  go_simp
  refine (CT.out _).mono ?_; rintro e2 w2 ⟨y, rfl, hO2, hq2⟩
  obtain ⟨Ay, cy, rfl⟩ := hO2.val
  have aS2 := aS1.below hq2
  try go_wp2_with fail
  refine hK.out _ _ ?_ (fun hHeld => ?_)
  · exact ⟨aS2.c0, aS2.c1⟩
  clear hK K
  (try simp only [Act.put]); (try simp only [List.setIfInBounds_toArray]); (try simp only [List.set_cons_succ]); (try simp only [List.set_cons_zero])
  refine wpAnyH_ready (rs := [7]) (by kernel_rfl) (by simp) ?_
  refine AllReadyH.cons rfl (fun K hK => ?_) AllReadyH.nil
  go_simp
  refine (CU.out _).mono ?_; rintro e3 w3 ⟨z, rfl, hO3, hq3⟩
  obtain ⟨Az, cz, rfl⟩ := hO3.val
  have aS3 := aS2.below hq3
  have hOy := (hO2.keep hq3).less hsz1
  have hsz3 := Nat.le_trans hsz1 (Nat.le_trans hq2.size hq3.size)
  try go_wp2_with fail
  refine hK.out _ _ ?_ (fun hHeld => ?_)
  · exact ⟨aS3.c0, aS3.c1⟩
  clear hK K
  (try simp only [Act.put]); (try simp only [List.setIfInBounds_toArray]); (try simp only [List.set_cons_succ]); (try simp only [List.set_cons_zero])
  refine wpAnyH_ready (rs := [8]) (by kernel_rfl) (by simp) ?_
  refine AllReadyH.cons rfl (fun K hK => ?_) AllReadyH.nil
  refine step_append_src _ rfl (.tmp 10) (.tmp 15) 41 rfl (w.heap.size + 1) 5 ib (.int .u8 0) Tryz.underlying41 hi hz0 hz1 1 hz2 rfl _ (txtL n).length ((txtL n).map (Value.int .u8)) rfl hOy Az cz (lebL x.length) rfl (hO3.src_ (Below.refl _ _)) (by unfold maxLen; omega) (by omega) hsz3 ?_
  intro v4 w4 hown4 hgrow4
  obtain ⟨hO4, hq4⟩ := hOy.join (ys := lebL x.length) hsz3 hown4 hgrow4
  have aS4 := aS3.low hq4 (by omega)
  have hsz4 := Nat.le_trans hsz3 hq4.size
  have hB4 := ((hB1.trans (hq2.mono hB1.size)).trans (hq3.mono (Nat.le_trans hB1.size hq2.size))).trans (hq4.mono (Nat.le_succ _))
  have LX4 := Lib.hid (((LX1.out.below (hq2.mono hB1.size)).below (hq3.mono (Nat.le_trans hB1.size hq2.size))).below (hq4.mono (Nat.le_succ _)))
  clear hown4 hgrow4 hOy hO3 hO2 aS1 aS2 aS3 hsz3 hsz1 hB1 hq2 hq3 hq4 LX1
  refine hK.out _ _ ?_ (fun hHeld => ?_)
  · exact ⟨aS4.c0, aS4.c1⟩
  clear hK K
  (try simp only [Act.put]); (try simp only [List.setIfInBounds_toArray]); (try simp only [List.set_cons_succ]); (try simp only [List.set_cons_zero])
  refine take_at (i := 9) (d := some 3) (v := ?_) rfl rfl (by kernel_rfl) (by kernel_rfl) (by kernel_rfl) (fun _ _ _ h => h) (Or.inl ⟨by rfl, ?hyb7⟩) (by assumption) ?restb7
  case hyb7 => (intro w hSw; (try dsimp only at hSw); go_simp; try with_reducible rfl)
  (try simp only [Act.put]); (try simp only [List.setIfInBounds_toArray]); (try simp only [List.set_cons_succ]); (try simp only [List.set_cons_zero])
  refine wpAnyH_done (by kernel_rfl) ?_ _
  clear hwl
  go_wp2_with fail
  go_loopw [3, 4] (fun o i wr => ∃ k : Nat, k ≤ x.length ∧ i = .int .i64 k ∧ Owned 5 .u8 wr (w.heap.size + 1) o ((txtL n ++ lebL x.length) ++ labsL (x.take k)) ∧ At2 wr w.heap.size (.string n) (.slice A0 x.length c0) ∧ Labs wr w.heap.size (.slice A0 x.length c0) x ∧ Below w.heap.size w wr ∧ w.heap.size + 1 ≤ wr.heap.size) (fun _ i _ => x.length - (intOf i).toNat)
  case atStart => exact ⟨0, Nat.zero_le _, rfl, by rw [List.take_zero, labsL, List.append_nil]; exact hO4, aS4, LX4.out, hB4, hsz4⟩
  case round =>
    clear hO4 aS4 LX4 hB4 hsz4
    obtain ⟨k, hk, rfl, hown, aS, hL, hB, hsz⟩ := hrel
    by_cases hlt : k < x.length
    · obtain ⟨ax, rfl, hbx, hcx⟩ := hL.at_ (by omega)
      have HLX := Lib.hid hL
      obtain ⟨x0, -⟩ := hcx k hlt
      have j0 : (0 : Int) ≤ (k : Int) := by omega
      have j1 : (k : Int) < (x.length : Int) := by omega
      have HP : Hid ((txtL n ++ lebL x.length) ++ labsL (x.take (k + 1)) = (((txtL n ++ lebL x.length) ++ labsL (x.take k)) ++ txtL x[k].1) ++ txtL x[k].2) := Lib.hid (by rw [labsL_next hlt]; simp)
      have hl1 : ((txtL n ++ lebL x.length) ++ labsL (x.take k)).length ≤ 1268 := by
        have h1 := labsL_len (x.take k) fun l hl => HLS.out l (List.mem_of_mem_take hl)
        rw [List.length_take] at h1
        rw [List.length_append, List.length_append]
        omega
      obtain ⟨hp0, hp1⟩ := HLS.out _ (List.getElem_mem hlt)
      have HX1 : Hid (∀ W', Below (w.heap.size + 1) wr W' → W'.cell? ⟨(ax.add (k * 2)).block, (ax.add (k * 2)).off + 1, none⟩ = some (.string x[k].2)) := Lib.hid fun W' h' => by
        have x1 := (h'.cell (by rw [block_of_add]; omega)).trans (hcx k hlt).2
        rw [add_next] at x1
        exact x1
      clear hcx hL
      generalize x[k].1 = p0 at *
      generalize x[k].2 = p1 at *
      generalize (txtL n ++ lebL x.length) ++ labsL (x.take k) = ys at *
      have hT0 := txtL_len p0 (by omega)
      have hT1 := txtL_len p1 (by omega)
      have C0 := Lib.hid fun W => rText_any p0 W (by omega)
      have C1 := Lib.hid fun W => rText_any p1 W (by omega)
      obtain ⟨a0, a1, -, -⟩ := id aS
      go_wp2_with fail
      refine (C0.out _).mono ?_; rintro e2 w2 ⟨y, rfl, hO2, hq2⟩
      obtain ⟨Ay, cy, rfl⟩ := hO2.val
      have hown2 := hown.keep hq2
      have hsz2 := Nat.le_trans hsz hq2.size
      go_wp2_with (at_builtin; go_must (refine wpList_append_src _ rfl (.tmp 24) (.tmp 31) 41 rfl (w.heap.size + 1) 5 ib (.int .u8 0) Tryz.underlying41 hi hz0 hz1 1 hz2 rfl _ ys.length (ys.map (Value.int .u8)) rfl hown2 Ay cy (txtL p0) rfl (hO2.src_ (Below.refl _ _)) (by unfold maxLen; omega) (by omega) hsz2 ?_); intro v4 w4 hown4 hgrow4; obtain ⟨hO4, hq4⟩ := hown2.join (ys := txtL p0) hsz2 hown4 hgrow4; have hsz4 := Nat.le_trans hsz2 hq4.size; have hq := (hq2.mono hsz).trans hq4; have aS4 := aS.low hq (by omega); have hl4 : (ys ++ txtL p0).length = ys.length + (txtL p0).length := List.length_append; have x1 := HX1.out _ hq; clear a0 a1 x0 hown2 hown4 hgrow4 hO2 hq2 hq4 hsz2; obtain ⟨a0, a1, -, -⟩ := id aS4; generalize ys ++ txtL p0 = zs at *)
      refine (C1.out _).mono ?_; rintro e5 w5 ⟨y2, rfl, hO5, hq5⟩
      obtain ⟨Ay2, cy2, rfl⟩ := hO5.val
      have hown5 := hO4.keep hq5
      have hsz5 := Nat.le_trans hsz4 hq5.size
      go_wp2_with (at_builtin; go_must (refine wpList_append_src _ rfl (.tmp 33) (.tmp 40) 41 rfl (w.heap.size + 1) 5 ib (.int .u8 0) Tryz.underlying41 hi hz0 hz1 1 hz2 rfl _ zs.length (zs.map (Value.int .u8)) rfl hown5 Ay2 cy2 (txtL p1) rfl (hO5.src_ (Below.refl _ _)) (by unfold maxLen; omega) (by omega) hsz5 ?_); intro v6 w6 hown6 hgrow6)
      obtain ⟨hO6, hq6⟩ := hown5.join (ys := txtL p1) hsz5 hown6 hgrow6
      have hq9 := (hq.trans (hq5.mono hsz4)).trans hq6
      go_roundw
      case rel => exact ⟨k + 1, hlt, by go_num, by rw [HP.out]; exact hO6, aS.low hq9 (by omega), HLX.out.below (hq9.mono (by omega)), hB.trans (hq9.mono (by omega)), Nat.le_trans hsz5 hq6.size⟩
      case measure => simp [intOf]; omega
    · obtain rfl : k = x.length := by omega
      rw [List.take_length, List.append_assoc, ← hE.out] at hown
      obtain ⟨a0, a1, -, -⟩ := id aS
      go_wp2_with fail
      go_ret
      exact ⟨_, rfl, hown.less (by omega), hB⟩
end Go.Proofs.YteiilmnehdbdiaaGreatDoor
