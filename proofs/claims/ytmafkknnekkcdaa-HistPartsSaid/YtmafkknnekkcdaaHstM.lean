/- The document's own merge of histograms: Merge of noonmarkref05, walked. -/
import Derived.Test.YtmafkknnekkcdaaHstB
import Derived.Test.YtmafkknnekkcdaaToldS
import Derived.Test.YtmafkknnekkcdaaAppend
import Derived.OwnWalk
namespace Go.Proofs.Ytmafkknnekkcdaa
open Go.RowKit

/-- The slice value reads as the list of rows, below block B. -/
def RowsS (w : World) (B : Nat) (v : Value) (rs : List (List Int)) : Prop :=
  ∃ (A : Option Addr) (c : Nat), v = .slice A rs.length c ∧ rs.length ≤ c ∧ (0 < rs.length → ∃ b o, A = some ⟨b, o, none⟩ ∧ b < B ∧ ∀ j (h : j < rs.length), rs[j].length = 65 ∧ w.rangeAt b (o + j * 65) (rs[j].map (Value.int .i64)))
theorem RowsS.keep {w w' : World} {B : Nat} {v : Value} {rs : List (List Int)} (h : RowsS w B v rs) (hb : Below B w w') : RowsS w' B v rs := by
  obtain ⟨A, c, rfl, hc, hr⟩ := h
  refine ⟨A, c, rfl, hc, fun hn => ?_⟩
  obtain ⟨b, o, e, hbb, hcell⟩ := hr hn
  exact ⟨b, o, e, hbb, fun j hj => ⟨(hcell j hj).1, fun i v hv => (hb.cell (p := ⟨b, o + j * 65 + i, none⟩) hbb).trans ((hcell j hj).2 i v hv)⟩⟩
theorem RowsS.len {w : World} {B : Nat} {v : Value} {rs : List (List Int)} (h : RowsS w B v rs) : ∃ A c, v = .slice A rs.length c := by obtain ⟨A, c, h, _⟩ := h; exact ⟨A, c, h⟩
/-- A column of rows; its sum; all 65. -/
def colL (rs : List (List Int)) (k : Nat) : List Int := rs.map fun r => r.getD k 0
def colsI (rs : List (List Int)) : List Int := (List.range 65).map fun k => (colL rs k).sum
def rowsOk (rs : List (List Int)) : Bool := rs.all nonegB
/-- Merge: the row and the error's number. -/
def mergeI (rs : List (List Int)) : List Int × Int := if rowsOk rs = false then (zrow, 10) else if (colsI rs).all (fun z => decide (Fits z)) = false then (zrow, 12) else (colsI rs, 0)
def RowE (p : List Int × Int) (e : Ending) : Prop := e = .returned (.tuple #[rowV p.1, .int .i64 p.2])
theorem rowsOk_no {rs : List (List Int)} {k : Nat} (h : k < rs.length) (hk : nonegB rs[k] = false) : rowsOk rs = false := by
  unfold rowsOk; rw [List.all_eq_false]; exact ⟨rs[k], List.getElem_mem h, by rw [hk]; decide⟩
theorem rowsOk_of {rs : List (List Int)} (h : ∀ k (hk : k < rs.length), nonegB rs[k] = true) : rowsOk rs = true := by
  unfold rowsOk; rw [List.all_eq_true]; intro r hr
  obtain ⟨k, hk, rfl⟩ := List.getElem_of_mem hr; exact h k hk

/-- The first k sums, and zeros behind. -/
def mixL (rs : List (List Int)) (zr : List Int) (k : Nat) : List Int := (colsI rs).take k ++ zr.drop k
theorem cols_len (rs : List (List Int)) : (colsI rs).length = 65 := by simp [colsI]
theorem mix_len {rs : List (List Int)} {zr : List Int} (hz : zr.length = 65) {k : Nat} (hk : k ≤ 65) : (mixL rs zr k).length = 65 := by
  unfold mixL; rw [List.length_append, List.length_take, List.length_drop, cols_len, hz]; omega
theorem cols_at (rs : List (List Int)) {k : Nat} (h : k < 65) : (colsI rs)[k]'(by rw [cols_len]; exact h) = (colL rs k).sum := by simp [colsI]
theorem mix_next {rs : List (List Int)} {zr : List Int} (hz : zr.length = 65) {k : Nat} (hk : k < 65) : (mixL rs zr k).set k (colL rs k).sum = mixL rs zr (k + 1) := by
  unfold mixL
  have h1 : ((colsI rs).take k).length = k := by rw [List.length_take, cols_len]; omega
  rw [List.set_append_right _ _ (by omega), h1, Nat.sub_self, List.drop_eq_getElem_cons (show k < zr.length by omega), List.set_cons_zero, List.take_succ_eq_append_getElem (by rw [cols_len]; exact hk), cols_at rs hk, List.append_assoc]
  rfl
theorem col_next {rs : List (List Int)} {l : Nat} (h : l < rs.length) (k : Nat) : colL (rs.take (l + 1)) k = colL (rs.take l) k ++ [rs[l].getD k 0] := by
  unfold colL; rw [List.take_succ_eq_append_getElem h, List.map_append]; rfl
theorem RowAt.belowB {w w1 : World} {b B : Nat} {zs : List Int} (a : RowAt w b zs) (hb : Below B w w1) (h : b < B) : RowAt w1 b zs :=
  ⟨fun k hk => (hb.cell (p := ⟨b, k, none⟩) h).trans (a.cell k hk), fun k hk => (hb.frozen (p := ⟨b, k, none⟩) h).trans (a.free k hk), Nat.lt_of_lt_of_le a.lt hb.size⟩
theorem long_info : (Try.prog.info? 2).map (fun i => (i.zero, i.size, i.bytes)) = some (some (.int .i64 0), 1, 8) := by kernel_rfl
theorem Owned.grow {t : TypeId} {wr w1 : World} {B : Nat} {v v' : Value} {xs : List Int} {z : Int} {o : Obj} (hown : Owned t .i64 wr B v xs) (hsz : B ≤ wr.heap.size)
    (h' : w1.ownsRow B t 1 v' (xs.length + 1) (xs.map (Value.int .i64) ++ [.int .i64 z])) (hg : (wr.alloc o).grownBy w1 v.ownBlock) : Owned t .i64 w1 B v' (xs ++ [z]) ∧ Below B wr w1 := by
  constructor
  · unfold Owned; rw [List.map_append, List.length_append]; exact h'
  · exact ((Below.refl B wr).alloc hsz o).grown hg (by simp; omega) (fun k hk => (World.ownsRow.lt hown k hk).1)
theorem Owned.below {t : TypeId} {wr w1 : World} {B : Nat} {v : Value} {xs : List Int} (h : Owned t .i64 wr B v xs) (hb : Below wr.heap.size wr w1) : Owned t .i64 w1 B v xs := by
  refine ⟨h.1, ?_⟩
  rcases h.2 with h0 | ⟨g, cap, cur, rfl, hg, hh, h2⟩
  · exact .inl h0
  · exact .inr ⟨g, cap, cur, rfl, hg, (hb.block g (World.ownsRow.lt h g rfl).2).trans hh, h2⟩
theorem one_long (wr : World) (x : Value) (t : TypeId) : ∀ j u, [x][j]? = some u → (wr.alloc (.cells #[x] t)).cell? ((⟨wr.heap.size, 0, none⟩ : Addr).add j) = some u := by
  intro j u hj
  match j, hj with
  | 0, hj => simp at hj; subst hj; simp [Addr.add]

set_option maxRecDepth 100000 in
set_option maxHeartbeats 8000000 in
theorem rMerge_any (v : Value) (rs : List (List Int)) (w : World) (hv : RowsS w w.heap.size v rs) (hf : ∀ r ∈ rs, ∀ z ∈ r, Fits z) (hn : rs.length ≤ 1000000) :
    Calls Try.prog 17 #[v] w fun e w' => RowE (mergeI rs) e ∧ Below w.heap.size w w' := by
  obtain ⟨A, c, rfl⟩ := hv.len
  have hz0 := zero65
  have hzl := Lib.hid zrow_len
  have HMI : Hid (∀ z, z = zrow → (rowsOk rs = false → mergeI rs = (z, 10)) ∧ (rowsOk rs = true → (colsI rs).all (fun z => decide (Fits z)) = false → mergeI rs = (z, 12)) ∧ (rowsOk rs = true → (colsI rs).all (fun z => decide (Fits z)) = true → mergeI rs = (colsI rs, 0))) := Lib.hid fun z hz => by
    subst hz
    exact ⟨fun h => if_pos h, fun h k => (if_neg (by rw [h]; decide)).trans (if_pos k), fun h k => (if_neg (by rw [h]; decide)).trans (if_neg (by rw [k]; decide))⟩
  replace HMI := Lib.hid (HMI.out zrow rfl)
  have R1 := RowAt.new (w.alloc (.cells ((zrow.map (Value.int .i64)).toArray) 32)) zrow 32
  have R0 := (RowAt.new w zrow 32).alloc (.cells ((zrow.map (Value.int .i64)).toArray) 32)
  rw [World.size_alloc] at R1
  have HI : Hid ((Try.prog.info? 32).map (·.size) = some ((zrow.map (Value.int .i64)).toArray).size) := Lib.hid (by rw [info65]; rfl)
  have RT : Hid (World.there ((w.alloc (.cells ((zrow.map (Value.int .i64)).toArray) 32)).alloc (.cells ((zrow.map (Value.int .i64)).toArray) 32)) (w.heap.size + 1) 0 ((zrow.map (Value.int .i64)).toArray).size) := Lib.hid (by have := R1.there; simpa using this)
  have R2 : RowAt (((w.alloc (.cells ((zrow.map (Value.int .i64)).toArray) 32)).alloc (.cells ((zrow.map (Value.int .i64)).toArray) 32)).setCells (w.heap.size + 1) 0 ((zrow.map (Value.int .i64)).toArray).toList) (w.heap.size + 1) zrow := R1.put rfl
  have R3 : RowAt (((w.alloc (.cells ((zrow.map (Value.int .i64)).toArray) 32)).alloc (.cells ((zrow.map (Value.int .i64)).toArray) 32)).setCells (w.heap.size + 1) 0 ((zrow.map (Value.int .i64)).toArray).toList) w.heap.size zrow := R0.puts (by simp) _ _
  have hB : Below w.heap.size w (((w.alloc (.cells ((zrow.map (Value.int .i64)).toArray) 32)).alloc (.cells ((zrow.map (Value.int .i64)).toArray) 32)).setCells (w.heap.size + 1) 0 ((zrow.map (Value.int .i64)).toArray).toList) := (below_puts (((below_new w _).alloc (by simp) _)) (Nat.le_succ _) _ _)
  have HV := Lib.hid hv
  have HF := Lib.hid hf
  have HN := Lib.hid hn
  clear R0 R1 hv hf
  generalize zrow = zr at *
  go_enter Try.func17, Try.ntmps17
  go_wp2_with (refine wpList_store_mid rfl _ (.tmp 4) (.tmp 11) rfl _ 0 _ rfl rfl RT.out HI.out (row_one _) ?_)
  generalize World.setCells _ _ _ _ = W at *
  clear RT
  go_loopw [5] (fun i wr => ∃ k : Nat, k ≤ rs.length ∧ i = .int .i64 k ∧ Below w.heap.size w wr ∧ RowAt wr (w.heap.size + 1) zr ∧ RowAt wr w.heap.size zr ∧ Hid (∀ j (h : j < rs.length), j < k → nonegB rs[j] = true)) (fun i _ => rs.length - (intOf i).toNat)
  case atStart => exact ⟨0, Nat.zero_le _, rfl, hB, R2, R3, Lib.hid fun j _ h => absurd h (by omega)⟩
  case round =>
    clear hB R2 R3
    obtain ⟨k, hk, rfl, hB, R2, R3, hall⟩ := hrel
    by_cases hlt : k < rs.length
    · obtain ⟨A', c', e, _, hr⟩ := HV.out
      obtain ⟨b, o, rfl, hb, hcell⟩ := hr (by omega)
      obtain rfl : A = some ⟨b, o, none⟩ := by injection e
      clear e hr
      obtain ⟨hlen, hrg⟩ := hcell k hlt
      have HRG : Hid (wr.rangeAt b (o + k * 65) (rs[k].map (Value.int .i64))) := Lib.hid fun i v hv => (hB.cell (p := ⟨b, o + k * 65 + i, none⟩) hb).trans (hrg i v hv)
      have HIR : Hid ((Try.prog.info? 32).map (·.size) = some (rs[k].map (Value.int .i64)).length) := Lib.hid (by rw [info65, List.length_map, hlen])
      have CR := Lib.hid (rRight5_any rs[k] · hlen)
      have i0 : (0 : Int) ≤ (k : Int) := by omega
      have i1 : (k : Int) < (rs.length : Int) := by omega
      clear hcell hb hlen hrg
      have hnk := rowsOk_no hlt
      have hall' : Hid (nonegB rs[k] = true → ∀ j (h : j < rs.length), j < k + 1 → nonegB rs[j] = true) := Lib.hid fun h0 j hj hjk => by
        by_cases e : j = k
        · subst e; exact h0
        · exact hall.out j hj (by omega)
      have HNK := Lib.hid hnk
      clear hnk hall
      generalize rs[k] = row at *
      cases hng : nonegB row with
      | false =>
        have HE := Lib.hid (HMI.out.1 (HNK.out hng))
        rw [hng] at CR
        clear hng HNK hall' R2
        go_wp2_with (first | (refine wpList_load_mid rfl _ (.tmp 20) rfl b (o + k * 65) rfl _ _ HRG.out Try.underlying32 rfl HIR.out ?_))
        refine (CR.out _).mono ?_; rintro e w1 ⟨rfl, h⟩
        replace hB := ext_step hB h
        have R4 := R3.below h
        have RT2 : Hid (World.there w1 w.heap.size 0 ((zr.map (Value.int .i64)).toArray).size) := Lib.hid (by have := R4.there; simpa using this)
        have R5 : RowAt (w1.setCells w.heap.size 0 ((zr.map (Value.int .i64)).toArray).toList) w.heap.size zr := R4.put rfl
        have hres := run_loadVar_mid (P := Try.prog) _ w.heap.size 0 32 _ _ R5.range Try.underlying32 rfl (by rw [info65, List.length_map, hzl.out])
        have hB5 := below_puts hB (Nat.le_refl _) 0 ((zr.map (Value.int .i64)).toArray).toList
        have HRES := Lib.hid hres
        clear hres R5 R4 R3 hB h HRG
        go_wp2_with (refine wpList_store_mid rfl _ (.tmp 2) (.tmp 24) rfl _ 0 _ rfl rfl RT2.out HI.out (row_one _) ?_)
        have hres := HRES.out
        exact bodyPost_ret (v := .tuple #[rowV zr, .int .i64 10]) (by simp [results, Try.results17, asAddr, hres]) rfl ⟨by rw [HE.out]; rfl, hB5⟩
      | true =>
        replace hall' := Lib.hid (hall'.out hng)
        rw [hng] at CR
        clear hng HNK
        go_wp2_with (first | (refine wpList_load_mid rfl _ (.tmp 20) rfl b (o + k * 65) rfl _ _ HRG.out Try.underlying32 rfl HIR.out ?_))
        refine (CR.out _).mono ?_; rintro e w1 ⟨rfl, h⟩
        replace hB := ext_step hB h
        replace R2 := R2.below h
        replace R3 := R3.below h
        clear h HRG
        go_wp2_with fail
        go_roundw
        case rel => exact ⟨k + 1, hlt, by go_num, hB, R2, R3, hall'⟩
        case measure => simp [intOf]; omega
    · have HOK := Lib.hid (rowsOk_of fun j hj => hall.out j hj (by omega))
      have HM2 := Lib.hid fun h => HMI.out.2.1 HOK.out h
      have HM3 := Lib.hid fun h => HMI.out.2.2 HOK.out h
      obtain ⟨i0, hi, hi0, hi1, hi2⟩ := info_parts long_info
      have HR2 : Hid (RowAt wr (w.heap.size + 1) (mixL rs zr 0)) := Lib.hid R2
      clear hall HMI R2
      obtain rfl : k = rs.length := by omega
      clear hk hlt
      go_wp2_with fail
      go_loopw [6] (fun i wr => ∃ k : Nat, k ≤ 65 ∧ i = .int .i64 k ∧ Below w.heap.size w wr ∧ RowAt wr (w.heap.size + 1) (mixL rs zr k) ∧ RowAt wr w.heap.size zr ∧ Hid (∀ j, j < k → Fits (colL rs j).sum)) (fun i _ => 65 - (intOf i).toNat)
      case atStart => exact ⟨0, Nat.zero_le _, rfl, hB, HR2.out, R3, Lib.hid fun j h => absurd h (by omega)⟩
      case round =>
        clear hB HR2 R3
        obtain ⟨k, hk, rfl, hB, R2, R3, hfit⟩ := hrel
        by_cases hlt : k < 65
        · have k0 : (0 : Int) ≤ (k : Int) := by omega
          have k1 : (k : Int) < 65 := by omega
          have hsz : w.heap.size + 2 ≤ wr.heap.size := by have := R2.lt; omega
          have hO : Owned 2 .i64 (wr.alloc (.cells #[] 2)) (w.heap.size + 2) (.slice (some ⟨wr.heap.size, 0, none⟩) 0 0) (colL (rs.take 0) k) := World.ownsRow_lit wr #[] 0 hsz (by simp [maxLen]) rfl
          replace R2 := R2.alloc (.cells #[] 2)
          replace R3 := R3.alloc (.cells #[] 2)
          replace hB := ext_alloc hB (.cells #[] 2)
          go_wp2_with fail
          generalize wr.alloc (.cells #[] 2) = W5 at *
          go_loopw [7, 8] (fun v i wr => ∃ l : Nat, l ≤ rs.length ∧ i = .int .i64 l ∧ Owned 2 .i64 wr (w.heap.size + 2) v (colL (rs.take l) k) ∧ Below w.heap.size w wr ∧ RowAt wr (w.heap.size + 1) (mixL rs zr k) ∧ RowAt wr w.heap.size zr) (fun _ i _ => rs.length - (intOf i).toNat)
          case atStart => exact ⟨0, Nat.zero_le _, rfl, hO, hB, R2, R3⟩
          case round =>
            clear hO hB R2 R3
            obtain ⟨l, hl, rfl, hown, hB, R2, R3⟩ := hrel
            by_cases hlt2 : l < rs.length
            · obtain ⟨A', c', e, _, hr⟩ := HV.out
              obtain ⟨b, o, rfl, hb, hcell⟩ := hr (by omega)
              obtain rfl : A = some ⟨b, o, none⟩ := by injection e
              clear e hr
              obtain ⟨hlen, hrg⟩ := hcell l hlt2
              have c1 : wr.cell? ⟨b, o + l * 65 + k, none⟩ = some (.int .i64 (rs[l].getD k 0)) := (hB.cell (p := ⟨b, o + l * 65 + k, none⟩) hb).trans (hrg k _ (by rw [List.getElem?_map, List.getD_eq_getElem?_getD, List.getElem?_eq_getElem (by omega)]; rfl))
              have HT := Lib.hid (col_next hlt2 k)
              have HLN : Hid ((colL (rs.take l) k).length = l) := Lib.hid (by unfold colL; rw [List.length_map, List.length_take]; omega)
              have j0 : (0 : Int) ≤ (l : Int) := by omega
              have j1 : (l : Int) < (rs.length : Int) := by omega
              have k0 : (0 : Int) ≤ (k : Int) := by omega
              have k1 : (k : Int) < 65 := by omega
              clear hcell hb hlen hrg
              generalize rs[l].getD k 0 = z at *
              generalize colL (rs.take l) k = xs at *
              have hsz : w.heap.size + 2 ≤ wr.heap.size := by have := R2.lt; omega
              have hnn := HN.out
              have hxl := HLN.out
              go_wp2_with (at_builtin; go_must (refine wpList_append_own _ rfl (.tmp 36) (.tmp 43) 30 rfl (w.heap.size + 2) 2 i0 (.int .i64 0) 1 8 Try.underlying30 hi hi0 hi1 hi2 rfl (by decide) _ xs.length (xs.map (Value.int .i64)) rfl (World.ownsRow.alloc hown _) ⟨wr.heap.size, 0, none⟩ 1 1 [.int .i64 z] rfl rfl (one_long _ _ _) (fun u hu => by simp at hu; subst hu; rfl) (by unfold maxLen; omega) (by omega) (by simp; omega) ?_); intro v2 w2 hown2 hgrow2 _)
              have hN := hown.grow hsz hown2 hgrow2
              have hB2 := hB.trans (hN.2.mono (show w.heap.size ≤ w.heap.size + 2 by omega))
              have R22 := R2.belowB hN.2 (by omega)
              have R32 := R3.belowB hN.2 (by omega)
              clear hown2 hgrow2 hown hB R2 R3 c1 hxl
              go_wp2_with fail
              go_roundw
              case rel => exact ⟨l + 1, hlt2, by go_num, by rw [HT.out]; exact hN.1, hB2, R22, R32⟩
              case measure => simp [intOf]; omega
            · obtain rfl : l = rs.length := by omega
              rw [List.take_length] at hown
              have CS := Lib.hid (refSum_any _ (colL rs k) wr hown.lst (fun z hz => by
                obtain ⟨r, hr, rfl⟩ := List.mem_map.1 hz
                rw [List.getD_eq_getElem?_getD]
                cases hg : r[k]? with
                | none => exact (by decide : Fits 0)
                | some z => exact HF.out r hr z (List.mem_of_getElem? hg)) (by unfold colL; rw [List.length_map]; exact HN.out))
              have hk0 : (0 : Int) ≤ (k : Int) := by omega
              have hk1 : (k : Int) < 65 := by omega
              clear hlt2 hl
              by_cases hfs : Fits (colL rs k).sum
              · have HTV := Lib.hid (toldV_fit hfs)
                have HTE := Lib.hid (toldE_fit hfs)
                have hfit' : Hid (∀ j, j < k + 1 → Fits (colL rs j).sum) := Lib.hid fun j hj => by
                  by_cases e : j = k
                  · subst e; exact hfs
                  · exact hfit.out j (by omega)
                have HX := Lib.hid (mix_next (rs := rs) hzl.out hlt)
                unfold Told at CS
                rw [HTV.out, HTE.out] at CS
                have hlm := mix_len (rs := rs) hzl.out (Nat.le_of_lt hlt)
                have HLM := Lib.hid hlm
                clear hfs hown hlm HTV HTE hfit
                go_wp2_with fail
                refine (CS.out).mono ?_; rintro e w3 ⟨rfl, h⟩
                replace hB := ext_step hB h
                replace R2 := R2.below h
                replace R3 := R3.below h
                have c2 := R2.cell k (by rw [HLM.out]; exact hlt)
                have c3 := R2.free k (by rw [HLM.out]; exact hlt)
                clear h CS
                go_wp2_with fail
                go_roundw
                case rel => exact ⟨k + 1, hlt, by go_num, ext_put hB (Nat.le_succ _) _, by rw [← HX.out]; exact R2.set (by rw [HLM.out]; exact hlt) _, R3.other (by simp) _, hfit'⟩
                case measure => simp [intOf]; omega
              · have HTV := Lib.hid (toldV_over hfs)
                have HTE := Lib.hid (toldE_over hfs)
                have HE := Lib.hid (HM2.out (by
                  rw [List.all_eq_false]
                  exact ⟨(colL rs k).sum, by rw [← cols_at rs hlt]; exact List.getElem_mem _, by simpa using hfs⟩))
                unfold Told at CS
                rw [HTV.out, HTE.out] at CS
                clear hfs hown HTV HTE hfit R2
                go_wp2_with fail
                refine (CS.out).mono ?_; rintro e w3 ⟨rfl, h⟩
                replace hB := ext_step hB h
                have R4 := R3.below h
                have RT2 : Hid (World.there w3 w.heap.size 0 ((zr.map (Value.int .i64)).toArray).size) := Lib.hid (by have := R4.there; simpa using this)
                have R5 : RowAt (w3.setCells w.heap.size 0 ((zr.map (Value.int .i64)).toArray).toList) w.heap.size zr := R4.put rfl
                have hres := run_loadVar_mid (P := Try.prog) _ w.heap.size 0 32 _ _ R5.range Try.underlying32 rfl (by rw [info65, List.length_map, hzl.out])
                have hB5 := below_puts hB (Nat.le_refl _) 0 ((zr.map (Value.int .i64)).toArray).toList
                have HRES := Lib.hid hres
                clear hres R5 R4 R3 hB h CS
                go_wp2_with (refine wpList_store_mid rfl _ (.tmp 2) (.tmp 52) rfl _ 0 _ rfl rfl RT2.out HI.out (row_one _) ?_)
                have hres := HRES.out
                exact bodyPost_ret (v := .tuple #[rowV zr, .int .i64 12]) (by simp [results, Try.results17, asAddr, hres]) rfl ⟨by rw [HE.out]; rfl, hB5⟩
        · obtain rfl : k = 65 := by omega
          have HE := Lib.hid (HM3.out (by
            rw [List.all_eq_true]
            intro z hz
            obtain ⟨j, hj, rfl⟩ := List.getElem_of_mem hz
            rw [cols_len] at hj
            rw [cols_at rs hj]
            exact decide_eq_true (hfit.out j hj)))
          have hmx : mixL rs zr 65 = colsI rs := by
            unfold mixL
            rw [List.take_of_length_le (by rw [cols_len]; exact Nat.le_refl _), List.drop_eq_nil_of_le (by rw [hzl.out]; exact Nat.le_refl _), List.append_nil]
          rw [hmx] at R2
          have hhl := cols_len rs
          have H1 : Hid ((Try.prog.info? 32).map (·.size) = some ((colsI rs).map (Value.int .i64)).length) := Lib.hid (by rw [info65, List.length_map, hhl])
          have H2 : Hid ((Try.prog.info? 32).map (·.size) = some (((colsI rs).map (Value.int .i64)).toArray).size) := Lib.hid (by rw [info65]; simp [hhl])
          have H3 : Hid (World.there wr w.heap.size 0 (((colsI rs).map (Value.int .i64)).toArray).size) := Lib.hid (by have := R3.there; rw [hzl.out] at this; simpa [hhl] using this)
          have R4 : RowAt (wr.setCells w.heap.size 0 (((colsI rs).map (Value.int .i64)).toArray).toList) w.heap.size (colsI rs) := R3.put (by rw [hhl, hzl.out])
          have hres := run_loadVar_mid (P := Try.prog) _ w.heap.size 0 32 _ _ R4.range Try.underlying32 rfl H1.out
          have hB4 := below_puts hB (Nat.le_refl _) 0 (((colsI rs).map (Value.int .i64)).toArray).toList
          have HR := Lib.hid R2.range
          have HRES := Lib.hid hres
          clear hhl R2 R3 R4 hB hres hlt hk hmx hfit HM2 HM3
          generalize colsI rs = hs at *
          go_wp2_with (first | (refine wpList_load_mid rfl _ (.tmp 4) rfl _ 0 rfl _ _ HR.out Try.underlying32 rfl H1.out ?_) | (refine wpList_store_mid rfl _ (.tmp 2) (.tmp 57) rfl _ 0 _ rfl rfl H3.out H2.out (row_one _) ?_))
          have hres := HRES.out
          exact bodyPost_ret (v := .tuple #[rowV hs, .int .i64 0]) (by simp [results, Try.results17, asAddr, hres]) rfl ⟨by rw [HE.out]; rfl, hB4⟩
end Go.Proofs.Ytmafkknnekkcdaa
