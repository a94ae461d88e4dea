/- Package hist on the landed code: Merge and Add, walked; all that law 5 asks of packages hist, gap and wide. -/
import Derived.Test.YtmafkknnekkcdaaHstT
import Derived.Test.YtmafkknnekkcdaaSafeP
import Derived.Test.YtmafkknnekkcdaaHstU
import Derived.Test.YtmafkknnekkcdaaHstG
namespace Go.Proofs.Ytmafkknnekkcdaa

section
open Go.RowKit

theorem RowsS.at_ {w : World} {B : Nat} {A : Option Addr} {n c : Nat} {rs : List (List Int)} (h : RowsS w B (.slice A n c) rs) {k : Nat} (hk : k < rs.length) :
    ∃ b o, A = some ⟨b, o, none⟩ ∧ b < B ∧ rs[k].length = 65 ∧ w.rangeAt b (o + k * 65) (rs[k].map (Value.int .i64)) := by
  obtain ⟨A', c', e, _, hr⟩ := h
  obtain ⟨b, o, rfl, hb, hcell⟩ := hr (by omega)
  injection e with e1 e2 e3
  exact ⟨b, o, e1, hb, hcell k hk⟩
/-- The sums of the first l rows, the first k of them with row l. -/
def midL (rs : List (List Int)) (l k : Nat) : List Int := mixL (rs.take (l + 1)) (colsI (rs.take l)) k
theorem mid_zero (rs : List (List Int)) (l : Nat) : midL rs l 0 = colsI (rs.take l) := by unfold midL mixL; simp
theorem mid_all (rs : List (List Int)) (l : Nat) : midL rs l 65 = colsI (rs.take (l + 1)) := by
  unfold midL mixL
  rw [List.take_of_length_le (by rw [cols_len]; exact Nat.le_refl _), List.drop_eq_nil_of_le (by rw [cols_len]; exact Nat.le_refl _), List.append_nil]
theorem mid_len (rs : List (List Int)) (l : Nat) {k : Nat} (hk : k ≤ 65) : (midL rs l k).length = 65 := mix_len (cols_len _) hk
theorem mid_at (rs : List (List Int)) (l : Nat) {k : Nat} (hk : k < 65) : (midL rs l k)[k]'(by rw [mid_len rs l (Nat.le_of_lt hk)]; exact hk) = (colL (rs.take l) k).sum := by
  unfold midL mixL
  rw [List.getElem_append_right (by rw [List.length_take, cols_len]; omega), List.getElem_drop]
  have h1 : ((colsI (rs.take (l + 1))).take k).length = k := by rw [List.length_take, cols_len]; omega
  simp only [h1, Nat.sub_self, Nat.add_zero]
  exact cols_at _ hk
theorem mid_next (rs : List (List Int)) (l : Nat) {k : Nat} (hk : k < 65) : (midL rs l k).set k (colL (rs.take (l + 1)) k).sum = midL rs l (k + 1) := mix_next (cols_len _) hk
theorem cols_nil : colsI [] = zrow := by decide
theorem col_sum_next {rs : List (List Int)} {l : Nat} (h : l < rs.length) (k : Nat) : (colL (rs.take (l + 1)) k).sum = (colL (rs.take l) k).sum + rs[l].getD k 0 := by
  rw [col_next h, List.sum_append]; simp
theorem nonneg_getD {r : List Int} (h : nonegB r = true) (k : Nat) : 0 ≤ r.getD k 0 := by
  rw [List.getD_eq_getElem?_getD]
  cases hg : r[k]? with
  | none => exact Int.le_refl 0
  | some z =>
    obtain ⟨hk, rfl⟩ := List.getElem?_eq_some_iff.1 hg
    exact noneg_at h hk
theorem col_ge {rs : List (List Int)} (hok : ∀ r ∈ rs, nonegB r = true) (k : Nat) : 0 ≤ (colL rs k).sum := by
  induction rs with
  | nil => exact Int.le_refl 0
  | cons r t ih =>
    show 0 ≤ (r.getD k 0 :: colL t k).sum
    rw [List.sum_cons]
    have h1 := nonneg_getD (hok r (List.mem_cons_self ..)) k
    have h2 := ih fun x hx => hok x (List.mem_cons_of_mem _ hx)
    omega
theorem col_part {rs : List (List Int)} (hok : ∀ r ∈ rs, nonegB r = true) (l k : Nat) : 0 ≤ (colL (rs.take l) k).sum ∧ (colL (rs.take l) k).sum ≤ (colL rs k).sum := by
  refine ⟨col_ge (fun r hr => hok r (List.mem_of_mem_take hr)) k, ?_⟩
  have h : colL rs k = colL (rs.take l) k ++ colL (rs.drop l) k := by unfold colL; rw [← List.map_append, List.take_append_drop]
  rw [h, List.sum_append]
  have := col_ge (rs := rs.drop l) (fun r hr => hok r (List.mem_of_mem_drop hr)) k
  omega

def rowT (p : List Int × Int) : Value := .tuple #[rowV p.1, .int .i64 p.2]

set_option maxRecDepth 100000 in
set_option maxHeartbeats 8000000 in
theorem hMerge_any (v : Value) (rs : List (List Int)) (w : World) (hv : RowsS w w.heap.size v rs) (hf : ∀ r ∈ rs, ∀ z ∈ r, Fits z) (hn : rs.length ≤ 1000000) :
    Calls Try.prog 16 #[v] w fun e w' => RowE (mergeI rs) e ∧ Below w.heap.size w w' := by
  obtain ⟨A, c, rfl⟩ := hv.len
  have hz0 := zeroH
  have hzl := Lib.hid zrow_len
  have HMI : Hid (∀ z, z = zrow → (rowsOk rs = false → mergeI rs = (z, 10)) ∧ (rowsOk rs = true → (colsI rs).all (fun z => decide (Fits z)) = false → mergeI rs = (z, 12)) ∧ (rowsOk rs = true → (colsI rs).all (fun z => decide (Fits z)) = true → mergeI rs = (colsI rs, 0))) := Lib.hid fun z hz => by
    subst hz
    exact ⟨fun h => if_pos h, fun h k => (if_neg (by rw [h]; decide)).trans (if_pos k), fun h k => (if_neg (by rw [h]; decide)).trans (if_neg (by rw [k]; decide))⟩
  replace HMI := Lib.hid (HMI.out zrow rfl)
  have R0 := RowAt.new w zrow 33
  have hB := below_new w zobj
  have HI : Hid ((Try.prog.info? 33).map (·.size) = some ((zrow.map (Value.int .i64)).toArray).size) := Lib.hid (infoHs zrow zrow_len)
  have HC0 : Hid (colsI (rs.take 0) = zrow) := Lib.hid cols_nil
  have HV := Lib.hid hv
  have HF := Lib.hid hf
  have HN := Lib.hid hn
  clear hv hf
  unfold zobj at *
  generalize hzr : zrow = zr at *
  replace hzr := Lib.hid hzr
  go_enter Try.func16, Try.ntmps16
  go_wp2_with fail
  generalize World.alloc _ _ = W at *
  go_loopw [15] (fun i wr => ∃ k : Nat, k ≤ rs.length ∧ i = .int .i64 k ∧ Below w.heap.size w wr ∧ RowAt wr w.heap.size zr ∧ Hid (∀ j (h : j < rs.length), j < k → nonegB rs[j] = true)) (fun i _ => rs.length - (intOf i).toNat)
  case atStart => exact ⟨0, Nat.zero_le _, rfl, hB, R0, Lib.hid fun j _ h => absurd h (by omega)⟩
  case round =>
    clear hB R0
    obtain ⟨k, hk, rfl, hB, R0, hall⟩ := hrel
    by_cases hlt : k < rs.length
    · obtain ⟨b, o, rfl, hb, hlen, hrg⟩ := HV.out.at_ hlt
      have HRG : Hid (wr.rangeAt b (o + k * 65) (rs[k].map (Value.int .i64))) := Lib.hid fun i v hv => (hB.cell (p := ⟨b, o + k * 65 + i, none⟩) hb).trans (hrg i v hv)
      have hi := infoHl rs[k] hlen
      have HIS := Lib.hid (infoHs rs[k] hlen)
      have CR := Lib.hid (hValid_any rs[k] · hlen)
      have i0 : (0 : Int) ≤ (k : Int) := by omega
      have i1 : (k : Int) < (rs.length : Int) := by omega
      have HNK := Lib.hid (rowsOk_no hlt)
      have hall' : Hid (nonegB rs[k] = true → ∀ j (h : j < rs.length), j < k + 1 → nonegB rs[j] = true) := Lib.hid fun h0 j hj hjk => by
        by_cases e : j = k
        · subst e; exact h0
        · exact hall.out j hj (by omega)
      have RS := row_stored wr rs[k] hlen
      have hB2 := below_stored hB rs[k]
      have HT : Hid (World.there (wr.alloc (.cells ((zr.map (Value.int .i64)).toArray) 33)) wr.heap.size 0 ((rs[k].map (Value.int .i64)).toArray).size) := Lib.hid (by rw [← hzr.out]; exact there_new wr rs[k] hlen)
      have R1 := (R0.alloc (.cells ((zr.map (Value.int .i64)).toArray) 33)).puts (Nat.ne_of_lt R0.lt) 0 ((rs[k].map (Value.int .i64)).toArray).toList
      unfold zobj at RS hB2
      rw [hzr.out] at RS hB2
      have HRS := Lib.hid RS.range
      have hu := Try.underlying33
      clear hrg hlen hb hall RS
      generalize rs[k] = row at *
      go_wp2_with (first | (refine wpList_load_mid rfl _ (.tmp 17) rfl b (o + k * 65) rfl _ _ HRG.out hu rfl hi ?_) | (refine wpList_store_mid rfl _ (.tmp 5) (.tmp 18) rfl _ 0 _ rfl rfl HT.out HIS.out (row_one _) ?_) | (refine wpList_load_mid rfl _ (.tmp 5) rfl _ 0 rfl _ _ HRS.out hu rfl hi ?_))
      refine (CR.out _).mono ?_; rintro e w1 ⟨rfl, h⟩
      have hB3 := ext_step hB2 h
      have R2 := R1.below h
      clear h CR HRS HRG hB hB2 R0 R1 HT HIS hi
      cases hng : nonegB row with
      | false =>
        have HE := Lib.hid (HMI.out.1 (HNK.out hng))
        have RT2 : Hid (World.there w1 w.heap.size 0 ((zr.map (Value.int .i64)).toArray).size) := Lib.hid (by have := R2.there; simpa using this)
        have R5 : RowAt (w1.setCells w.heap.size 0 ((zr.map (Value.int .i64)).toArray).toList) w.heap.size zr := R2.put rfl
        have hres := run_loadVar_mid (P := Try.prog) _ w.heap.size 0 33 _ _ R5.range Try.underlying33 rfl (by rw [infoH, List.length_map, hzl.out])
        have hB5 := below_puts hB3 (Nat.le_refl _) 0 ((zr.map (Value.int .i64)).toArray).toList
        have HRES := Lib.hid hres
        clear hres R5 R2 hB3 hng HNK hall'
        go_wp2_with (refine wpList_store_mid rfl _ (.tmp 2) (.tmp 22) rfl _ 0 _ rfl rfl RT2.out HI.out (row_one _) ?_)
        have hres := HRES.out
        exact bodyPost_ret (v := .tuple #[rowV zr, .int .i64 10]) (by simp [results, Try.results16, asAddr, hres]) rfl ⟨by rw [HE.out]; rfl, hB5⟩
      | true =>
        replace hall' := Lib.hid (hall'.out hng)
        clear hng HNK
        go_wp2_with fail
        go_roundw
        case rel => exact ⟨k + 1, hlt, by go_num, hB3, R2, hall'⟩
        case measure => simp [intOf]; omega
    · obtain rfl : k = rs.length := by omega
      have HA : Hid (∀ r ∈ rs, nonegB r = true) := Lib.hid fun r hr => by
        obtain ⟨j, hj, rfl⟩ := List.getElem_of_mem hr
        exact hall.out j hj hj
      have HOK := Lib.hid (rowsOk_of fun j hj => hall.out j hj (by omega))
      have HM2 := Lib.hid fun h => HMI.out.2.1 HOK.out h
      have HM3 := Lib.hid fun h => HMI.out.2.2 HOK.out h
      have RT := RowAt.new wr zr 33
      have hne : w.heap.size ≠ wr.heap.size := Nat.ne_of_lt R0.lt
      have hge := hB.size
      replace R0 := R0.alloc (.cells ((zr.map (Value.int .i64)).toArray) 33)
      replace hB := ext_alloc hB (.cells ((zr.map (Value.int .i64)).toArray) 33)
      clear hall HMI hk hlt
      go_wp2_with fail
      generalize wr.alloc (.cells ((zr.map (Value.int .i64)).toArray) 33) = W5 at *
      generalize wr.heap.size = gT at *
      go_loopw [26] (fun i wr => ∃ l : Nat, l ≤ rs.length ∧ i = .int .i64 l ∧ Below w.heap.size w wr ∧ RowAt wr w.heap.size zr ∧ RowAt wr gT (colsI (rs.take l)) ∧ Hid (∀ j, j < 65 → Fits (colL (rs.take l) j).sum)) (fun i _ => rs.length - (intOf i).toNat)
      case atStart => exact ⟨0, Nat.zero_le _, rfl, hB, R0, by rw [HC0.out]; exact RT, Lib.hid fun j _ => (by decide : Fits 0)⟩
      case round =>
        clear hB R0 RT
        obtain ⟨l, hl, rfl, hB, R0, RT, hfit⟩ := hrel
        by_cases hlt : l < rs.length
        · obtain ⟨b, o, rfl, hb, hlen, hrg⟩ := HV.out.at_ hlt
          have HRG : Hid (wr.rangeAt b (o + l * 65) (rs[l].map (Value.int .i64))) := Lib.hid fun i v hv => (hB.cell (p := ⟨b, o + l * 65 + i, none⟩) hb).trans (hrg i v hv)
          have hi := infoHl rs[l] hlen
          have HIS := Lib.hid (infoHs rs[l] hlen)
          have i0 : (0 : Int) ≤ (l : Int) := by omega
          have i1 : (l : Int) < (rs.length : Int) := by omega
          have RS := row_stored wr rs[l] hlen
          have hB2 := below_stored hB rs[l]
          have HT : Hid (World.there (wr.alloc (.cells ((zr.map (Value.int .i64)).toArray) 33)) wr.heap.size 0 ((rs[l].map (Value.int .i64)).toArray).size) := Lib.hid (by rw [← hzr.out]; exact there_new wr rs[l] hlen)
          have R1 := (R0.alloc (.cells ((zr.map (Value.int .i64)).toArray) 33)).puts (Nat.ne_of_lt R0.lt) 0 ((rs[l].map (Value.int .i64)).toArray).toList
          have RT1 := (RT.alloc (.cells ((zr.map (Value.int .i64)).toArray) 33)).puts (Nat.ne_of_lt RT.lt) 0 ((rs[l].map (Value.int .i64)).toArray).toList
          unfold zobj at RS hB2
          rw [hzr.out] at RS hB2
          have HRS := Lib.hid RS.range
          have hu := Try.underlying33
          have HLN := Lib.hid hlen
          have HRF := Lib.hid (HF.out rs[l] (List.getElem_mem hlt))
          have HSN := Lib.hid (col_sum_next hlt)
          clear hrg hlen hb RS
          generalize rs[l] = row at *
          go_wp2_with (first | (refine wpList_load_mid rfl _ (.tmp 28) rfl b (o + l * 65) rfl _ _ HRG.out hu rfl hi ?_) | (refine wpList_store_mid rfl _ (.tmp 8) (.tmp 29) rfl _ 0 _ rfl rfl HT.out HIS.out (row_one _) ?_) | (refine wpList_load_mid rfl _ (.tmp 8) rfl _ 0 rfl _ _ HRS.out hu rfl hi ?_))
          generalize World.setCells _ _ _ _ = W6 at *
          generalize wr.heap.size = gB at *
          clear HRS HRG HT HIS hi hB R0 RT
          rw [← mid_zero rs l] at RT1
          go_loopw [31] (fun i wr => ∃ k : Nat, k ≤ 65 ∧ i = .int .i64 k ∧ Below w.heap.size w wr ∧ RowAt wr w.heap.size zr ∧ RowAt wr gT (midL rs l k) ∧ Hid (∀ j, j < k → Fits (colL (rs.take (l + 1)) j).sum)) (fun i _ => 65 - (intOf i).toNat)
          case atStart => exact ⟨0, Nat.zero_le _, rfl, hB2, R1, RT1, Lib.hid fun j h => absurd h (by omega)⟩
          case round =>
            clear hB2 R1 RT1
            obtain ⟨k, hk, rfl, hB2, R1, RT1, hfit2⟩ := hrel
            by_cases hlt2 : k < 65
            · have hix := fun W => index_row row HLN.out k hlt2 _ rfl W
              have k0 : (0 : Int) ≤ (k : Int) := by omega
              have k1 : (k : Int) < 65 := by omega
              have c1 := RT1.cell k (by rw [mid_len rs l hk]; exact hlt2)
              have c2 := RT1.free k (by rw [mid_len rs l hk]; exact hlt2)
              rw [mid_at rs l hlt2] at c1
              have hkr : k < row.length := by rw [HLN.out]; exact hlt2
              have hgd : row.getD k 0 = row[k] := by rw [List.getD_eq_getElem?_getD, List.getElem?_eq_getElem hkr]; rfl
              have hs := HSN.out k
              rw [hgd] at hs
              have CA := add_any (colL (rs.take l) k).sum row[k] (hfit.out k hlt2) (HRF.out _ (List.getElem_mem hkr))
              rw [← hs] at CA
              have hp := col_part HA.out (l + 1) k
              have HX := Lib.hid (mid_next rs l hlt2)
              have HML := Lib.hid (mid_len rs l hk)
              clear hs hgd
              by_cases hF : Fits (colL (rs.take (l + 1)) k).sum
              · rw [toldV_fit hF, toldE_fit hF] at CA
                replace CA := Lib.hid CA
                have hfit' : Hid (∀ j, j < k + 1 → Fits (colL (rs.take (l + 1)) j).sum) := Lib.hid fun j hj => by
                  by_cases e : j = k
                  · subst e; exact hF
                  · exact hfit2.out j (by omega)
                clear hF hp hfit2
                generalize row[k] = z at *
                generalize (colL (rs.take l) k).sum = y at *
                generalize (colL (rs.take (l + 1)) k).sum = y' at *
                go_wp2_with fail
                refine (CA.out _).mono ?_; rintro e w3 ⟨rfl, rfl⟩
                go_wp2_with fail
                go_roundw
                case rel => exact ⟨k + 1, hlt2, by go_num, ext_put hB2 hge _, R1.other hne.symm _, by rw [← HX.out]; exact RT1.set (by rw [HML.out]; exact hlt2) _, hfit'⟩
                case measure => simp [intOf]; omega
              · have HE := Lib.hid (HM2.out (by
                  rw [List.all_eq_false]
                  refine ⟨(colL rs k).sum, by rw [← cols_at rs hlt2]; exact List.getElem_mem _, ?_⟩
                  have hnf : ¬ Fits (colL rs k).sum := fun h => hF (by unfold Fits at h ⊢; omega)
                  simpa using hnf))
                rw [toldV_over hF, toldE_over hF] at CA
                replace CA := Lib.hid CA
                have RT2 : Hid (World.there wr w.heap.size 0 ((zr.map (Value.int .i64)).toArray).size) := Lib.hid (by have := R1.there; simpa using this)
                have R5 : RowAt (wr.setCells w.heap.size 0 ((zr.map (Value.int .i64)).toArray).toList) w.heap.size zr := R1.put rfl
                have hres := run_loadVar_mid (P := Try.prog) _ w.heap.size 0 33 _ _ R5.range Try.underlying33 rfl (by rw [infoH, List.length_map, hzl.out])
                have hB5 := below_puts hB2 (Nat.le_refl _) 0 ((zr.map (Value.int .i64)).toArray).toList
                have HRES := Lib.hid hres
                clear hres R5 R1 hB2 hF hp hfit2 HX
                generalize row[k] = z at *
                generalize (colL (rs.take l) k).sum = y at *
                go_wp2_with fail
                refine (CA.out _).mono ?_; rintro e w3 ⟨rfl, rfl⟩
                go_wp2_with (refine wpList_store_mid rfl _ (.tmp 2) (.tmp 45) rfl _ 0 _ rfl rfl RT2.out HI.out (row_one _) ?_)
                have hres := HRES.out
                exact bodyPost_ret (v := .tuple #[rowV zr, .int .i64 12]) (by simp [results, Try.results16, asAddr, hres]) rfl ⟨by rw [HE.out]; rfl, hB5⟩
            · obtain rfl : k = 65 := by omega
              rw [mid_all] at RT1
              have hfit' : Hid (∀ j, j < 65 → Fits (colL (rs.take (l + 1)) j).sum) := hfit2
              clear hk hlt2
              go_wp2_with fail
              go_roundw
              case rel => exact ⟨l + 1, hlt, by go_num, hB2, R1, RT1, hfit'⟩
              case measure => simp [intOf]; omega
        · obtain rfl : l = rs.length := by omega
          rw [List.take_length] at RT hfit
          have HE := Lib.hid (HM3.out (by
            rw [List.all_eq_true]
            intro z hz
            obtain ⟨j, hj, rfl⟩ := List.getElem_of_mem hz
            rw [cols_len] at hj
            rw [cols_at rs hj]
            exact decide_eq_true (hfit.out j hj)))
          have hhl := cols_len rs
          have H1 := Lib.hid (infoHl (colsI rs) hhl)
          have H2 := Lib.hid (infoHs (colsI rs) hhl)
          have H3 : Hid (World.there wr w.heap.size 0 (((colsI rs).map (Value.int .i64)).toArray).size) := Lib.hid (by have := R0.there; rw [hzl.out] at this; rw [rowsz _ hhl]; exact this)
          have R4 : RowAt (wr.setCells w.heap.size 0 (((colsI rs).map (Value.int .i64)).toArray).toList) w.heap.size (colsI rs) := R0.put (by rw [hhl, hzl.out])
          have hres := run_loadVar_mid (P := Try.prog) _ w.heap.size 0 33 _ _ R4.range Try.underlying33 rfl H1.out
          have hB4 := below_puts hB (Nat.le_refl _) 0 (((colsI rs).map (Value.int .i64)).toArray).toList
          have HR := Lib.hid RT.range
          have HRES := Lib.hid hres
          clear hhl R0 RT R4 hB hres hlt hl hfit HM2 HM3
          generalize colsI rs = hs at *
          go_wp2_with (first | (refine wpList_load_mid rfl _ (.tmp 6) rfl _ 0 rfl _ _ HR.out Try.underlying33 rfl H1.out ?_) | (refine wpList_store_mid rfl _ (.tmp 2) (.tmp 52) rfl _ 0 _ rfl rfl H3.out H2.out (row_one _) ?_))
          have hres := HRES.out
          exact bodyPost_ret (v := .tuple #[rowV hs, .int .i64 0]) (by simp [results, Try.results16, asAddr, hres]) rfl ⟨by rw [HE.out]; rfl, hB4⟩
end

section
open Go.RowKit

theorem Lst.one (w : World) (v : Int) (t : TypeId) (g : Nat) (hg : Hid (g = w.heap.size)) : Lst (w.alloc (.cells #[.int .i64 v] t)) (w.alloc (.cells #[.int .i64 v] t)).heap.size .i64 (.slice (some ⟨g, 0, none⟩) 1 1) [v] := Lst.fresh w [v] t g hg
theorem merge_len (rs : List (List Int)) : (mergeI rs).1.length = 65 := by
  unfold mergeI
  split
  · exact zrow_len
  · split
    · exact zrow_len
    · exact cols_len rs

set_option maxRecDepth 100000 in
set_option maxHeartbeats 4000000 in
theorem hAdd_any (hs : List Int) (v : Int) (w : World) (hl : hs.length = 65) (hf : ∀ z ∈ hs, Fits z) (hv : Fits v) :
    Calls Try.prog 19 #[rowV hs, .int .i64 v] w fun e w' => RowE (mergeI [hs, histOf [v]]) e ∧ Below w.heap.size w w' := by
  have hz0 := zeroH
  have hzl := Lib.hid zrow_len
  have R0 := (RowAt.new w hs 33).alloc zobj
  have A0 := RowAt.new1 w (.cells ((hs.map (Value.int .i64)).toArray) 33) zrow 33
  have hB : Below w.heap.size w ((w.alloc (.cells ((hs.map (Value.int .i64)).toArray) 33)).alloc zobj) := (below_new w _).alloc (by simp) zobj
  have HI := Lib.hid (infoHs hs hl)
  have hi := infoHl hs hl
  have hu := Try.underlying33
  have HL := Lib.hid hl
  have H1 := Lib.hid (histOf_length [v])
  have hF1 : ∀ r ∈ [hs, histOf [v]], ∀ z ∈ r, Fits z := fun r hr => by
    simp only [List.mem_cons, List.not_mem_nil, or_false] at hr
    rcases hr with rfl | rfl
    · exact hf
    · exact histOf_fits (by simp)
  have CO : Hid (∀ W u, Lst W W.heap.size .i64 u [v] → Calls Try.prog 14 #[u] W fun e w' => e = .returned (rowV (histOf [v])) ∧ Below W.heap.size W w') := Lib.hid fun W u h => hOf_any u [v] W h (fun z hz => by simp at hz; subst hz; exact hv) (by simp)
  obtain ⟨p1, p2, hp⟩ : ∃ p1 p2, mergeI [hs, histOf [v]] = (p1, p2) := ⟨_, _, rfl⟩
  have HP : Hid (p1.length = 65) := Lib.hid (by have := merge_len [hs, histOf [v]]; rwa [hp] at this)
  have CM : Hid (∀ W u, RowsS W W.heap.size u [hs, histOf [v]] → Calls Try.prog 16 #[u] W fun e w' => e = .returned (.tuple #[rowV p1, .int .i64 p2]) ∧ Below W.heap.size W w') := Lib.hid fun W u h => by
    have := hMerge_any u [hs, histOf [v]] W h hF1 (by simp)
    rw [hp] at this
    exact this
  have HE : Hid (RowE (mergeI [hs, histOf [v]]) (.returned (.tuple #[rowV p1, .int .i64 p2]))) := Lib.hid (by rw [hp]; exact rfl)
  have hne : Hid (w.heap.size ≠ w.heap.size + 1) := Lib.hid (by omega)
  clear hl hf hF1 hp hv
  unfold zobj at *
  generalize zrow = zr at *
  generalize histOf [v] = h1 at *
  go_enter Try.func19, Try.ntmps19
  go_upto_region 1 with fail
  generalize World.alloc _ (.cells ((zr.map (Value.int .i64)).toArray) 33) = W at *
  have hB1 : Below w.heap.size w W.drew := ext_drew hB
  have R3 := R0.drew
  have A3 := A0.drew
  refine wp_region_held_drew (S := fun w' => w'.rangeAt w.heap.size 0 (hs.map (Value.int .i64))) (by kernel_rfl) ?_ (fun hHeld => ?_)
  · exact RowAt.range R3
  refine take_at (i := 0) (d := some 6) (v := _) rfl rfl (by kernel_rfl) (by kernel_rfl) (by kernel_rfl) (fun _ _ _ h => h) (yieldsIf_load_mid (by kernel_rfl) 33 _ rfl w.heap.size 0 rfl (hs.map (Value.int .i64)) _ (fun _ h => h) hu rfl hi) (by assumption) ?_
  (try simp only [Act.put]); (try simp only [List.setIfInBounds_toArray]); (try simp only [List.set_cons_succ]); (try simp only [List.set_cons_zero])
  refine take_at (i := 1) (d := some 7) (v := ?_) rfl rfl (by kernel_rfl) (by kernel_rfl) (by kernel_rfl) (fun _ _ _ h => h) (Or.inl ⟨by rfl, ?hya2⟩) (by assumption) ?resta2
  case hya2 => (intro w hSw; (try dsimp only at hSw); go_simp; try with_reducible rfl)
  (try simp only [Act.put]); (try simp only [List.setIfInBounds_toArray]); (try simp only [List.set_cons_succ]); (try simp only [List.set_cons_zero])
  refine wpAnyH_ready (rs := [2]) (by kernel_rfl) (by simp) ?_
  refine AllReadyH.cons rfl (fun K hK => ?_) AllReadyH.nil
  go_simp
  refine hK.out _ _ ?_ (fun hHeld => ?_)
  · exact RowAt.range (RowAt.alloc R3 (.cells #[.int .i64 v] 2))
  clear hK K
  (try simp only [Act.put]); (try simp only [List.setIfInBounds_toArray]); (try simp only [List.set_cons_succ]); (try simp only [List.set_cons_zero])
  refine wpAnyH_ready (rs := [3]) (by kernel_rfl) (by simp) ?_
  refine AllReadyH.cons rfl (fun K hK => ?_) AllReadyH.nil
  go_simp
  go_at_call 14
  refine (CO.out _ _ (Lst.one W.drew v 2 _ (Lib.hid (by first | rfl | simp)))).mono ?_
  rintro e w1 ⟨rfl, hq⟩
  have B1 := ext_step (ext_alloc hB1 (.cells #[.int .i64 v] 2)) hq
  have R4 := RowAt.below (RowAt.alloc R3 (.cells #[.int .i64 v] 2)) hq
  have A4 := RowAt.below (RowAt.alloc A3 (.cells #[.int .i64 v] 2)) hq
  clear hq
  try go_wp2_with fail
  refine hK.out _ _ ?_ (fun hHeld => ?_)
  · exact RowAt.range R4
  clear hK K
  (try simp only [Act.put]); (try simp only [List.setIfInBounds_toArray]); (try simp only [List.set_cons_succ]); (try simp only [List.set_cons_zero])
  refine wpAnyH_ready (rs := [4]) (by kernel_rfl) (by simp) ?_
  refine AllReadyH.cons rfl (fun K hK => ?_) AllReadyH.nil
  refine step_two rfl (.tmp 6) (.tmp 9) rfl hs h1 HL.out H1.out rfl rfl ?_
  refine hK.out _ _ ?_ (fun hHeld => ?_)
  · exact RowAt.range (RowAt.alloc R4 (.cells (twoRows hs h1) 33))
  clear hK K
  (try simp only [Act.put]); (try simp only [List.setIfInBounds_toArray]); (try simp only [List.set_cons_succ]); (try simp only [List.set_cons_zero])
  refine wpAnyH_ready (rs := [5]) (by kernel_rfl) (by simp) ?_
  refine AllReadyH.cons rfl (fun K hK => ?_) AllReadyH.nil
  go_simp
  go_at_call 16
  refine (CM.out _ _ (RowsS.two w1 hs h1 HL.out H1.out _ _ (Lib.hid (by first | rfl | simp)))).mono ?_
  rintro e w2 ⟨rfl, hq⟩
  have B2 := ext_step (ext_alloc B1 (.cells (twoRows hs h1) 33)) hq
  have R5 := RowAt.below (RowAt.alloc R4 (.cells (twoRows hs h1) 33)) hq
  have A5 := RowAt.below (RowAt.alloc A4 (.cells (twoRows hs h1) 33)) hq
  clear hq
  try go_wp2_with fail
  refine hK.out _ _ ?_ (fun hHeld => ?_)
  · exact RowAt.range R5
  clear hK K
  (try simp only [Act.put]); (try simp only [List.setIfInBounds_toArray]); (try simp only [List.set_cons_succ]); (try simp only [List.set_cons_zero])
  refine take_at (i := 6) (d := some 12) (v := ?_) rfl rfl (by kernel_rfl) (by kernel_rfl) (by kernel_rfl) (fun _ _ _ h => h) (Or.inl ⟨by rfl, ?hya3⟩) (by assumption) ?resta3
  case hya3 => (intro w hSw; (try dsimp only at hSw); go_simp; try with_reducible rfl)
  (try simp only [Act.put]); (try simp only [List.setIfInBounds_toArray]); (try simp only [List.set_cons_succ]); (try simp only [List.set_cons_zero])
  refine take_at (i := 7) (d := some 13) (v := ?_) rfl rfl (by kernel_rfl) (by kernel_rfl) (by kernel_rfl) (fun _ _ _ h => h) (Or.inl ⟨by rfl, ?hya4⟩) (by assumption) ?resta4
  case hya4 => (intro w hSw; (try dsimp only at hSw); go_simp; try with_reducible rfl)
  (try simp only [Act.put]); (try simp only [List.setIfInBounds_toArray]); (try simp only [List.set_cons_succ]); (try simp only [List.set_cons_zero])
  refine wpAnyH_ready (rs := [8]) (by kernel_rfl) (by simp) ?_
  refine AllReadyH.cons rfl (fun K hK => ?_) AllReadyH.nil
  refine step_row rfl (.tmp 4) (.tmp 12) rfl _ zr p1 A5 hzl.out HP.out rfl rfl ?_
  refine hK.out _ _ ?_ (fun hHeld => ?_)
  · exact RowAt.range (RowAt.puts R5 hne.out 0 _)
  clear hK K
  (try simp only [Act.put]); (try simp only [List.setIfInBounds_toArray]); (try simp only [List.set_cons_succ]); (try simp only [List.set_cons_zero])
  refine take_at (i := 9) (d := some 5) (v := ?_) rfl rfl (by kernel_rfl) (by kernel_rfl) (by kernel_rfl) (fun _ _ _ h => h) (Or.inl ⟨by rfl, ?hya5⟩) (by assumption) ?resta5
  case hya5 => (intro w hSw; (try dsimp only at hSw); go_simp; try with_reducible rfl)
  (try simp only [Act.put]); (try simp only [List.setIfInBounds_toArray]); (try simp only [List.set_cons_succ]); (try simp only [List.set_cons_zero])
  refine wpAnyH_done (by kernel_rfl) ?_ _
  have A6 := RowAt.put A5 (by rw [HP.out, hzl.out] : p1.length = zr.length)
  have hres := run_loadVar_mid (P := Try.prog) _ (w.heap.size + 1) 0 33 _ _ A6.range Try.underlying33 rfl (infoHl p1 HP.out)
  have HB := Lib.hid (below_puts B2 (Nat.le_succ _) 0 (p1.map (Value.int .i64)))
  have HRES := Lib.hid hres
  clear hres
  go_wp2_with fail
  have hres := HRES.out
  exact bodyPost_ret (v := .tuple #[rowV p1, .int .i64 p2]) (by simp [results, Try.results19, asAddr, hres]) rfl ⟨HE.out.symm ▸ rfl, HB.out⟩

theorem histC : HistC := ⟨fun v w h => hBucket_any v w h, fun b w h => hBounds_in b w h, fun b w _ h => hBounds_out b w h, fun v zs w h1 h2 h3 => hOf_any v zs w h1 h2 h3, fun v rs w h1 h2 h3 => hMerge_any v rs w h1 h2 h3, fun hs v w h1 h2 h3 => hAdd_any hs v w h1 h2 h3, fun hs w h1 h2 => hTotal_any hs w h1 h2,
  fun hs hi lo w h1 h2 h3 h4 h5 => by
    have e1 : (hi * 18446744073709551616 + lo) / 18446744073709551616 = hi := by omega
    have e2 : (hi * 18446744073709551616 + lo) % 18446744073709551616 = lo := by omega
    have h := hRank_two hs (hi * 18446744073709551616 + lo) (rankV hs hi lo) w h1 h2 (by rw [two_bd]; unfold Fits at h3; omega) (by
      unfold rankV
      by_cases hn : hi < 0
      · rw [if_pos (Or.inr hn), if_pos (Or.inr (by omega))]
      · by_cases hg : nonegB hs = false
        · rw [if_pos (Or.inl hg), if_pos (Or.inl hg)]
        · rw [if_neg (fun h => h.elim hg hn), if_neg (fun h => h.elim hg fun h => hn (by omega))])
    rw [e1, e2] at h
    exact h,
  fun hs w h1 _ => full_any hs w h1, fun n w h => hOfN_any n w h, fun a b w => hRight_any a b w, fun a b x w => hHas_any a b x w⟩
end
end Go.Proofs.Ytmafkknnekkcdaa
