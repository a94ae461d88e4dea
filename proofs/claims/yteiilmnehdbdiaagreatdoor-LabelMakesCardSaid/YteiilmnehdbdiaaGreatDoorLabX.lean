/- noonmarkref08's Parse, walked. -/
import Derived.Test.YteiilmnehdbdiaaGreatDoorLabT
import Derived.Test.YteiilmnehdbdiaaGreatDoorLabF
import Derived.Test.YteiilmnehdbdiaaGreatDoorLabS
namespace Go.Proofs.YteiilmnehdbdiaaGreatDoor
open Go.RowKit

/-- What a call of Parse answers: the right series of this text, if there is one. -/
def ParseE (t : TypeId) (w : World) (s : ByteArray) (e : Ending) (w' : World) : Prop :=
  (∃ n x v, IsRight n x ∧ fullS n x = s ∧ e = .returned (.tuple #[.agg #[.string n, v], .bool true]) ∧ OwnB t w' w.heap.size v x ∧ Below w.heap.size w w') ∨
  ((∀ n x, IsRight n x → fullS n x ≠ s) ∧ e = .returned (.tuple #[.agg #[.string ByteArray.empty, .slice none 0 0], .bool false]) ∧ Below w.heap.size w w')

set_option maxRecDepth 100000 in
set_option maxHeartbeats 4000000 in
theorem rParse8_any (t : ByteArray) (w : World) (ht : t.size ≤ 100000) : Calls Tryz.prog 23 #[.string t] w (ParseE 48 w t) := by
  obtain ⟨i0, hi, hz0, hz1, hz2⟩ := info_parts label8_info
  have aR := At2.new w (.string ByteArray.empty) (.slice none 0 0) 32
  have hB0 := grew1 w (.cells #[.string ByteArray.empty, .slice none 0 0] 32)
  have hWs : (w.alloc (.cells #[.string ByteArray.empty, .slice none 0 0] 32)).heap.size = w.heap.size + 1 := World.size_alloc _ _
  go_enter Tryz.func23, Tryz.ntmps23
  go_wp2_with fail
  change Code.wp _ _ _ _ (w.alloc (.cells #[.string ByteArray.empty, .slice none 0 0] 32))
  generalize w.alloc (.cells #[.string ByteArray.empty, .slice none 0 0] 32) = V at *
  have HAR := Lib.hid aR
  have HB0 := Lib.hid hB0
  clear aR hB0
  go_loop [4] (fun i => ∃ k : Nat, k ≤ t.size ∧ i = .int .i64 k ∧ Hid (∀ j (h : j < t.size), j < k → t[j] ≠ 123)) (fun i => t.size - (intOf i).toNat)
  case atStart => exact ⟨0, Nat.zero_le _, rfl, Lib.hid fun j _ h => absurd h (by omega)⟩
  case round =>
    obtain ⟨a, hk, rfl, hall⟩ := hrel
    have aR1 := HAR.out.alloc (.cells #[.string (t.extract 0 a), .slice none 0 0] 32)
    have aO1 := At2.new V (.string (t.extract 0 a)) (.slice none 0 0) 32
    have hB1 := ext_alloc HB0.out (.cells #[.string (t.extract 0 a), .slice none 0 0] 32)
    have hs1 : (V.alloc (.cells #[.string (t.extract 0 a), .slice none 0 0] 32)).heap.size = w.heap.size + 1 + 1 := by rw [World.size_alloc, hWs]
    rw [hWs] at aO1
    have HPRE : Hid ((t.extract 0 a).data.toList = t.data.toList.take a) := Lib.hid (extract_pre t a)
    have hnm : (t.extract 0 a).size ≤ 1000000 := by
      have := congrArg List.length HPRE.out
      rw [List.length_take] at this
      simp at this ⊢
      omega
    have HAL := Lib.hid hall
    by_cases hlt : a < t.size
    · have j0 : (0 : Int) ≤ (a : Int) := by omega
      have j1 : (a : Int) < (t.size : Int) := by omega
      by_cases hc : t[a] = 123
      · have hc1 : ((t[a].toNat : Nat) : Int) = 123 := by rw [hc]; rfl
        have HMID : Hid (∀ i, a + 1 ≤ i → t.data.toList = t.data.toList.take a ++ 123 :: (midB t (a + 1) i ++ t.data.toList.drop i)) := Lib.hid fun i hi => midB_all hlt hc hi
        have HPL : Hid (∀ c ∈ t.data.toList.take a, c ≠ 123) := Lib.hid fun c hcm => by
          obtain ⟨j, hj, rfl⟩ := List.getElem_of_mem hcm
          rw [List.length_take] at hj
          rw [List.getElem_take]
          exact HAL.out.out j (by omega) (by omega)
        have HR1 := Lib.hid (aR1.alloc (.cells #[.string ByteArray.empty, .string ByteArray.empty] 48))
        have HO1 := Lib.hid (aO1.alloc (.cells #[.string ByteArray.empty, .string ByteArray.empty] 48))
        have aL := At2.new (V.alloc (.cells #[.string (t.extract 0 a), .slice none 0 0] 32)) (.string ByteArray.empty) (.string ByteArray.empty) 48
        rw [hs1] at aL
        have HL1 := Lib.hid aL
        have HB1 := Lib.hid (ext_alloc hB1 (.cells #[.string ByteArray.empty, .string ByteArray.empty] 48))
        have hsz0 : w.heap.size + 1 + 1 + 1 ≤ ((V.alloc (.cells #[.string (t.extract 0 a), .slice none 0 0] 32)).alloc (.cells #[.string ByteArray.empty, .string ByteArray.empty] 48)).heap.size := by rw [World.size_alloc, hs1]; exact Nat.le_refl _
        clear aR1 aO1 hB1 aL hall hc HAL
        go_wp2_with fail
        clear hc1
        change Code.wp _ _ _ _ ((V.alloc (.cells #[.string (t.extract 0 a), .slice none 0 0] 32)).alloc (.cells #[.string ByteArray.empty, .string ByteArray.empty] 48))
        clear hs1 hWs
        generalize (V.alloc (.cells #[.string (t.extract 0 a), .slice none 0 0] 32)).alloc (.cells #[.string ByteArray.empty, .string ByteArray.empty] 48) = W at *
        generalize t.extract 0 a = nm at *
        go_loopw [6, 8] (fun wd i wr => ∃ (k : Nat) (word nv : ByteArray) (o : Value) (acc : List Lab), a + 1 ≤ k ∧ k ≤ t.size ∧ i = .int .i64 k ∧ wd = .string word ∧ Hid ((midB t (a + 1) k).foldl stepP ([], [], []) = (word.data.toList, nv.data.toList, acc.map labB)) ∧ word.size ≤ k ∧ nv.size ≤ k ∧ Hid (∀ l ∈ acc, l.1.size ≤ 1000000 ∧ l.2.size ≤ 1000000) ∧ acc.length ≤ 9 ∧ At2 wr w.heap.size (.string ByteArray.empty) (.slice none 0 0) ∧ At2 wr (w.heap.size + 1) (.string nm) o ∧ At2 wr (w.heap.size + 1 + 1) (.string nv) (.string ByteArray.empty) ∧ OwnB 48 wr (w.heap.size + 1 + 1 + 1) o acc ∧ Below w.heap.size w wr ∧ w.heap.size + 1 + 1 + 1 ≤ wr.heap.size) (fun _ i _ => t.size - (intOf i).toNat)
        case atStart => exact ⟨a + 1, ByteArray.empty, ByteArray.empty, _, [], by omega, by omega, by go_num, rfl, Lib.hid (by rw [midB_nil]; rfl), Nat.zero_le _, Nat.zero_le _, Lib.hid (by simp), Nat.zero_le _, HR1.out, HO1.out, HL1.out, OwnB.nil_ _ _ _, HB1.out, hsz0⟩
        case round =>
          clear HR1 HO1 HL1 HB1 hsz0
          obtain ⟨k, word, nv, o, acc, hak, hk, rfl, rfl, hf, hw1, hw2, HSZ, hl9, aR, aO, aL, hown, hB, hsz⟩ := hrel
          by_cases hgo : k < t.size ∧ acc.length ≤ 8
          · obtain ⟨hlt, hl8⟩ := hgo
            obtain ⟨Ao, co, rfl⟩ := hown.val
            have j0 : (0 : Int) ≤ (k : Int) := by omega
            have j1 : (k : Int) < (t.size : Int) := by omega
            have j2 : (acc.length : Int) ≤ 8 := by omega
            have HF : Hid ((midB t (a + 1) (k + 1)).foldl stepP ([], [], []) = stepP (word.data.toList, nv.data.toList, acc.map labB) t[k]) := Lib.hid (by rw [midB_next hlt hak, List.foldl_append, hf.out]; rfl)
            have HX1 : Hid ((t.extract k (k + 1)).data.toList = [t[k]]) := Lib.hid (extract_one t hlt)
            have hcN : ∀ c : UInt8, t[k] = c → ((t[k].toNat : Nat) : Int) = c.toNat := fun c h => by rw [h]
            have hcN2 : ∀ c : UInt8, t[k] ≠ c → (((t[k].toNat : Nat) : Int) == c.toNat) = false := fun c h => by
              rw [beq_eq_false_iff_ne]
              exact fun h2 => h (UInt8.toNat_inj.1 (by omega))
            obtain ⟨o0, o1, o2, o3⟩ := id aO
            obtain ⟨l0, l1, l2, l3⟩ := id aL
            clear hf
            by_cases h61 : t[k] = 61
            · have e1 : ((t[k].toNat : Nat) : Int) = 61 := hcN _ h61
              rw [h61, stepP_eq] at HF
              have aR2 := aR.other (b' := w.heap.size + 1 + 1) (by omega) 0 (.string word)
              have aO2 := aO.other (b' := w.heap.size + 1 + 1) (by omega) 0 (.string word)
              have aL2 := aL.set0 (.string word)
              have hown2 := hown.away (p := ⟨w.heap.size + 1 + 1, 0, none⟩) (by dsimp only; omega) (.string word)
              have hB2 := Lib.hid (hB.setCell (p := ⟨w.heap.size + 1 + 1, 0, none⟩) (by dsimp only; omega) (.string word))
              have HO2 := Lib.hid aO2
              have HL2 := Lib.hid aL2
              have HR2 := Lib.hid aR2
              clear h61 hcN hcN2 aR2 aO2 aL2
              go_wp2_with fail
              go_roundw
              case rel => exact ⟨k + 1, ByteArray.empty, word, _, acc, by omega, hlt, by go_num, rfl, HF, Nat.zero_le _, by omega, HSZ, hl9, HR2.out, HO2.out, HL2.out, hown2, hB2.out, by rw [World.size_setCell]; exact hsz⟩
              case measure => simp [intOf]; omega
            by_cases hend : t[k] = 44 ∨ t[k] = 125
            · rw [stepP_end _ _ _ hend] at HF
              have HF2 : Hid ((midB t (a + 1) (k + 1)).foldl stepP ([], [], []) = (ByteArray.empty.data.toList, ByteArray.empty.data.toList, (acc ++ [(nv, word)]).map labB)) := Lib.hid (by rw [HF.out, List.map_append]; rfl)
              have HSZ2 : Hid (∀ l ∈ acc ++ [(nv, word)], l.1.size ≤ 1000000 ∧ l.2.size ≤ 1000000) := Lib.hid fun l hl => by
                rcases List.mem_append.1 hl with h | h
                · exact HSZ.out l h
                · rw [List.mem_singleton] at h; subst h; exact ⟨by show nv.size ≤ _; omega, by show word.size ≤ _; omega⟩
              have hcase : (((t[k].toNat : Nat) : Int) = 44) ∨ (((t[k].toNat : Nat) : Int) = 125) := hend.imp (hcN _) (hcN _)
              clear h61 hcN hcN2 hend HF
              -- the world behind the first store
              have aL2 := aL.set1 (.string word)
              have aO2 := aO.other (b' := w.heap.size + 1 + 1) (by omega) 1 (.string word)
              have aR2 := aR.other (b' := w.heap.size + 1 + 1) (by omega) 1 (.string word)
              have hown2 := hown.away (p := ⟨w.heap.size + 1 + 1, 1, none⟩) (by dsimp only; omega) (.string word)
              have hB2 := hB.setCell (p := ⟨w.heap.size + 1 + 1, 1, none⟩) (by dsimp only; omega) (.string word)
              have hsz2 : w.heap.size + 1 + 1 + 1 ≤ (wr.setCell ⟨w.heap.size + 1 + 1, 1, none⟩ (.string word)).heap.size := by rw [World.size_setCell]; exact hsz
              rcases hcase with e1 | e1
              all_goals
                go_wp2_with (at_builtin; go_must (refine wpList_append_cells _ rfl (.tmp 64) (.tmp 66) 30 rfl (w.heap.size + 1 + 1 + 1) 48 i0 (.agg #[.string ByteArray.empty, .string ByteArray.empty]) 2 32 Tryz.underlying30 hi hz0 hz1 hz2 rfl (by decide) _ acc.length (cellsB acc) rfl (World.ownsRow.alloc hown2 _) _ 1 1 [.string nv, .string word] rfl rfl (lab_src _ _ _ _ _ (Lib.hid (by simp))) (two_strs _ _) (by unfold maxLen; omega) (by omega) (Nat.le_trans hsz2 (by simp)) ?_); intro v5 w5 hown5 hgrow5; obtain ⟨hown6, hq⟩ := hown2.grew hsz2 hown5 hgrow5; clear hown5 hgrow5 o0 o1 o2 o3 l0 l1 l2 l3; obtain ⟨A2, c2, rfl⟩ := hown6.val1; have aO6 := aO2.low hq (by omega); have aL6 := (aL2.low hq (by omega)).other (b' := w.heap.size + 1) (by omega) 1 (.slice A2 (acc.length + 1) c2); obtain ⟨o0, o1, o2, o3⟩ := id aO6; obtain ⟨l0, l1, l2, l3⟩ := id aL6)
                have hR6 := (((aR2.low hq (by omega)).other (b' := w.heap.size + 1) (by omega) 1 (.slice A2 (acc.length + 1) c2)).other (b' := w.heap.size + 1 + 1) (by omega) 0 (.string ByteArray.empty)).other (b' := w.heap.size + 1 + 1) (by omega) 1 (.string ByteArray.empty)
                have hO6 := ((aO6.set1 (.slice A2 (acc.length + 1) c2)).other (b' := w.heap.size + 1 + 1) (by omega) 0 (.string ByteArray.empty)).other (b' := w.heap.size + 1 + 1) (by omega) 1 (.string ByteArray.empty)
                have hL6 := (aL6.set0 (.string ByteArray.empty)).set1 (.string ByteArray.empty)
                have hown7 := ((hown6.away (p := ⟨w.heap.size + 1, 1, none⟩) (by dsimp only; omega) (.slice A2 (acc.length + 1) c2)).away (p := ⟨w.heap.size + 1 + 1, 0, none⟩) (by dsimp only; omega) (.string ByteArray.empty)).away (p := ⟨w.heap.size + 1 + 1, 1, none⟩) (by dsimp only; omega) (.string ByteArray.empty)
                have hB6 := (((hB2.trans (hq.mono (by omega))).setCell (p := ⟨w.heap.size + 1, 1, none⟩) (by dsimp only; omega) (.slice A2 (acc.length + 1) c2)).setCell (p := ⟨w.heap.size + 1 + 1, 0, none⟩) (by dsimp only; omega) (.string ByteArray.empty)).setCell (p := ⟨w.heap.size + 1 + 1, 1, none⟩) (by dsimp only; omega) (.string ByteArray.empty)
                go_roundw
                case rel => exact ⟨k + 1, ByteArray.empty, ByteArray.empty, _, acc ++ [(nv, word)], by omega, hlt, by go_num, rfl, HF2, Nat.zero_le _, Nat.zero_le _, HSZ2, by rw [List.length_append]; simp; omega, hR6, hO6, hL6, hown7, hB6, by have := hq.size; simp at *; omega⟩
                case measure => simp [intOf]; omega
            · have h44 : t[k] ≠ 44 := fun h => hend (Or.inl h)
              have h125 : t[k] ≠ 125 := fun h => hend (Or.inr h)
              have e1 := hcN2 _ h61
              have e2 := hcN2 _ h44
              have e3 := hcN2 _ h125
              have e1 : (((t[k].toNat : Nat) : Int) == 61) = false := e1
              have e2 : (((t[k].toNat : Nat) : Int) == 44) = false := e2
              have e3 : (((t[k].toNat : Nat) : Int) == 125) = false := e3
              rw [stepP_other _ _ _ h61 h44 h125] at HF
              have HF2 : Hid ((midB t (a + 1) (k + 1)).foldl stepP ([], [], []) = ((word ++ t.extract k (k + 1)).data.toList, nv.data.toList, acc.map labB)) := Lib.hid (by rw [HF.out, app_data, HX1.out])
              have hsx : (t.extract k (k + 1)).size = 1 := by rw [ByteArray.size_extract]; omega
              have hsw : Hid ((word ++ t.extract k (k + 1)).size ≤ k + 1) := Lib.hid (by rw [ByteArray.size_append, hsx]; omega)
              have hmn : min (k + 1) t.size - k = 1 := by omega
              have s1 : ¬ 9223372036854775807 < word.size + 1 := by omega
              clear h61 h44 h125 hend hcN hcN2 HF HX1
              have hn9 : (k : Int) + 1 ≤ (t.size : Int) := by omega
              go_wp2_with fail
              go_roundw
              case rel => exact ⟨k + 1, _, nv, _, acc, by omega, hlt, by go_num, rfl, HF2, hsw.out, by omega, HSZ, hl9, aR, aO, aL, hown, hB, hsz⟩
              case measure => simp [intOf]; omega
          · have HSP : Hid (∀ n x, IsRight n x → fullS n x = t → n = nm ∧ x = acc) := Lib.hid fun n x hr h => by
              obtain ⟨h1, h2⟩ := par_labels (HMID.out k hak) HPL.out hf.out (by
                by_cases h9 : 8 < acc.length
                · exact Or.inr h9
                · refine Or.inl (List.drop_eq_nil_of_le ?_)
                  have : t.data.toList.length = t.size := by simp
                  omega) hr h
              exact ⟨data_one (h1.trans HPRE.out.symm), h2⟩
            clear hf
            rcases (show k = t.size ∨ (k < t.size ∧ 8 < acc.length) by omega) with hke | ⟨hlt, h9⟩
            · subst hke

              obtain ⟨Ao, co, rfl⟩ := hown.val
              have CT := Lib.hid (rText8_any nm _ acc _ hown.labs hnm HSZ.out)
              obtain ⟨o0, o1, o2, o3⟩ := id aO
              by_cases hq : textS nm acc = t ∧ t ≠ ByteArray.empty
              · have hR := textS_one hq.1 hq.2
                have HR := Lib.hid hR
                have hne : (t.toList == ([] : List UInt8)) = false := by
                  rw [beq_eq_false_iff_ne]
                  exact fun h => hq.2 (toList_one.1 (h.trans empty_list.symm))
                rw [hq.1] at CT
                clear hq hR
                go_wp2_with fail
                refine (CT.out).mono ?_; rintro e6 w4 ⟨rfl, hq⟩
                have aR4 := aR.below hq
                have aO4 := aO.below hq
                have hown4 := hown.below hq
                have hB4 := ext_step hB hq
                clear o0 o1 o2 o3
                obtain ⟨r0, r1, r2, r3⟩ := id aR4
                obtain ⟨o0, o1, o2, o3⟩ := id aO4
                have HF := Lib.hid ((aR4.set0 (.string nm)).set1 (.slice Ao acc.length co))
                have HG := Lib.hid (((hown4.away (p := ⟨w.heap.size, 0, none⟩) (by dsimp only; omega) (.string nm)).away (p := ⟨w.heap.size, 1, none⟩) (by dsimp only; omega) (.slice Ao acc.length co)).less (show w.heap.size ≤ w.heap.size + 1 + 1 + 1 by omega))
                have HB5 := Lib.hid ((hB4.setCell (p := ⟨w.heap.size, 0, none⟩) (Nat.le_refl _) (.string nm)).setCell (p := ⟨w.heap.size, 1, none⟩) (Nat.le_refl _) (.slice Ao acc.length co))
                go_wp2_with fail
                have z0 := HF.out.c0
                have z1 := HF.out.c1
                exact bodyPost_ret (v := .tuple #[.agg #[.string nm, .slice Ao acc.length co], .bool true]) (by simp [results, Tryz.results23, go_sem, z0, z1]) rfl (Or.inl ⟨_, _, _, HR.out.1, HR.out.2, rfl, HG.out, HB5.out⟩)
              · have hNO : Hid (∀ n x, IsRight n x → fullS n x ≠ t) := Lib.hid fun n x hr h => by
                  obtain ⟨h1, h2⟩ := HSP.out n x hr h
                  subst h1; subst h2
                  exact hq ⟨(if_pos hr).trans h, fun h0 => full_some hr (h.trans h0)⟩
                have hcase : (textS nm acc = t ∧ t = ByteArray.empty) ∨ textS nm acc ≠ t := by
                  by_cases h : textS nm acc = t
                  · exact Or.inl ⟨h, Classical.byContradiction fun h0 => hq ⟨h, h0⟩⟩
                  · exact Or.inr h
                clear hq
                rcases hcase with ⟨h1, h2⟩ | h1
                · have hne : (t.toList == ([] : List UInt8)) = true := by rw [h2, empty_list]; rfl
                  rw [h1] at CT
                  clear h1 h2
                  go_wp2_with fail
                  refine (CT.out).mono ?_; rintro e6 w4 ⟨rfl, hq⟩
                  have aR4 := aR.below hq
                  have hB4 := ext_step hB hq
                  obtain ⟨r0, r1, r2, r3⟩ := id aR4
                  have HB5 := Lib.hid ((hB4.setCell (p := ⟨w.heap.size, 0, none⟩) (Nat.le_refl _) (.string ByteArray.empty)).setCell (p := ⟨w.heap.size, 1, none⟩) (Nat.le_refl _) (.slice none 0 0))
                  go_wp2_with fail
                  exact bodyPost_ret (v := .tuple #[.agg #[.string ByteArray.empty, .slice none 0 0], .bool false]) (by simp [results, Tryz.results23, go_sem, r0, r1]; rfl) rfl (Or.inr ⟨hNO.out, rfl, HB5.out⟩)
                · have hne : ((textS nm acc).toList == t.toList) = false := by
                    rw [beq_eq_false_iff_ne]
                    exact fun h => h1 (toList_one.1 h)
                  clear h1
                  generalize textS nm acc = q at *
                  go_wp2_with fail
                  refine (CT.out).mono ?_; rintro e6 w4 ⟨rfl, hq⟩
                  have aR4 := aR.below hq
                  have hB4 := ext_step hB hq
                  obtain ⟨r0, r1, r2, r3⟩ := id aR4
                  have HB5 := Lib.hid ((hB4.setCell (p := ⟨w.heap.size, 0, none⟩) (Nat.le_refl _) (.string ByteArray.empty)).setCell (p := ⟨w.heap.size, 1, none⟩) (Nat.le_refl _) (.slice none 0 0))
                  go_wp2_with fail
                  exact bodyPost_ret (v := .tuple #[.agg #[.string ByteArray.empty, .slice none 0 0], .bool false]) (by simp [results, Tryz.results23, go_sem, r0, r1]; rfl) rfl (Or.inr ⟨hNO.out, rfl, HB5.out⟩)
            · have j0 : (0 : Int) ≤ (k : Int) := by omega
              have j1 : (k : Int) < (t.size : Int) := by omega
              have j2 : ¬ (acc.length : Int) ≤ 8 := by omega

              obtain ⟨Ao, co, rfl⟩ := hown.val
              have CT := Lib.hid (rText8_any nm _ acc _ hown.labs hnm HSZ.out)
              obtain ⟨o0, o1, o2, o3⟩ := id aO
              by_cases hq : textS nm acc = t ∧ t ≠ ByteArray.empty
              · have hR := textS_one hq.1 hq.2
                have HR := Lib.hid hR
                have hne : (t.toList == ([] : List UInt8)) = false := by
                  rw [beq_eq_false_iff_ne]
                  exact fun h => hq.2 (toList_one.1 (h.trans empty_list.symm))
                rw [hq.1] at CT
                clear hq hR
                go_wp2_with fail
                refine (CT.out).mono ?_; rintro e6 w4 ⟨rfl, hq⟩
                have aR4 := aR.below hq
                have aO4 := aO.below hq
                have hown4 := hown.below hq
                have hB4 := ext_step hB hq
                clear o0 o1 o2 o3
                obtain ⟨r0, r1, r2, r3⟩ := id aR4
                obtain ⟨o0, o1, o2, o3⟩ := id aO4
                have HF := Lib.hid ((aR4.set0 (.string nm)).set1 (.slice Ao acc.length co))
                have HG := Lib.hid (((hown4.away (p := ⟨w.heap.size, 0, none⟩) (by dsimp only; omega) (.string nm)).away (p := ⟨w.heap.size, 1, none⟩) (by dsimp only; omega) (.slice Ao acc.length co)).less (show w.heap.size ≤ w.heap.size + 1 + 1 + 1 by omega))
                have HB5 := Lib.hid ((hB4.setCell (p := ⟨w.heap.size, 0, none⟩) (Nat.le_refl _) (.string nm)).setCell (p := ⟨w.heap.size, 1, none⟩) (Nat.le_refl _) (.slice Ao acc.length co))
                go_wp2_with fail
                have z0 := HF.out.c0
                have z1 := HF.out.c1
                exact bodyPost_ret (v := .tuple #[.agg #[.string nm, .slice Ao acc.length co], .bool true]) (by simp [results, Tryz.results23, go_sem, z0, z1]) rfl (Or.inl ⟨_, _, _, HR.out.1, HR.out.2, rfl, HG.out, HB5.out⟩)
              · have hNO : Hid (∀ n x, IsRight n x → fullS n x ≠ t) := Lib.hid fun n x hr h => by
                  obtain ⟨h1, h2⟩ := HSP.out n x hr h
                  subst h1; subst h2
                  exact hq ⟨(if_pos hr).trans h, fun h0 => full_some hr (h.trans h0)⟩
                have hcase : (textS nm acc = t ∧ t = ByteArray.empty) ∨ textS nm acc ≠ t := by
                  by_cases h : textS nm acc = t
                  · exact Or.inl ⟨h, Classical.byContradiction fun h0 => hq ⟨h, h0⟩⟩
                  · exact Or.inr h
                clear hq
                rcases hcase with ⟨h1, h2⟩ | h1
                · have hne : (t.toList == ([] : List UInt8)) = true := by rw [h2, empty_list]; rfl
                  rw [h1] at CT
                  clear h1 h2
                  go_wp2_with fail
                  refine (CT.out).mono ?_; rintro e6 w4 ⟨rfl, hq⟩
                  have aR4 := aR.below hq
                  have hB4 := ext_step hB hq
                  obtain ⟨r0, r1, r2, r3⟩ := id aR4
                  have HB5 := Lib.hid ((hB4.setCell (p := ⟨w.heap.size, 0, none⟩) (Nat.le_refl _) (.string ByteArray.empty)).setCell (p := ⟨w.heap.size, 1, none⟩) (Nat.le_refl _) (.slice none 0 0))
                  go_wp2_with fail
                  exact bodyPost_ret (v := .tuple #[.agg #[.string ByteArray.empty, .slice none 0 0], .bool false]) (by simp [results, Tryz.results23, go_sem, r0, r1]; rfl) rfl (Or.inr ⟨hNO.out, rfl, HB5.out⟩)
                · have hne : ((textS nm acc).toList == t.toList) = false := by
                    rw [beq_eq_false_iff_ne]
                    exact fun h => h1 (toList_one.1 h)
                  clear h1
                  generalize textS nm acc = q at *
                  go_wp2_with fail
                  refine (CT.out).mono ?_; rintro e6 w4 ⟨rfl, hq⟩
                  have aR4 := aR.below hq
                  have hB4 := ext_step hB hq
                  obtain ⟨r0, r1, r2, r3⟩ := id aR4
                  have HB5 := Lib.hid ((hB4.setCell (p := ⟨w.heap.size, 0, none⟩) (Nat.le_refl _) (.string ByteArray.empty)).setCell (p := ⟨w.heap.size, 1, none⟩) (Nat.le_refl _) (.slice none 0 0))
                  go_wp2_with fail
                  exact bodyPost_ret (v := .tuple #[.agg #[.string ByteArray.empty, .slice none 0 0], .bool false]) (by simp [results, Tryz.results23, go_sem, r0, r1]; rfl) rfl (Or.inr ⟨hNO.out, rfl, HB5.out⟩)
      · have hc1 : (((t[a].toNat : Nat) : Int) == 123) = false := by
          rw [beq_eq_false_iff_ne]
          exact fun h => hc (UInt8.toNat_inj.1 (by show t[a].toNat = 123; omega))
        have hall2 : Hid (∀ j (h : j < t.size), j < a + 1 → t[j] ≠ 123) := Lib.hid fun j hj hja => by
          by_cases e : j = a
          · subst e; exact hc
          · exact hall.out j hj (by omega)
        clear aR1 aO1 hB1 hs1 hall hc HAL HPRE
        go_wp2_with fail
        go_round
        case rel => exact ⟨a + 1, hlt, by go_num, hall2⟩
        case measure => simp [intOf]; omega
    · obtain rfl : a = t.size := by omega
      have HSP : Hid (∀ n x, IsRight n x → fullS n x = t → n = t.extract 0 t.size ∧ x = []) := Lib.hid fun n x _ h => by
        obtain ⟨h1, h2⟩ := par_plain (fun c hc => by
          obtain ⟨j, hj, rfl⟩ := List.getElem_of_mem hc
          have hj2 : j < t.size := by simpa using hj
          exact hall.out j hj2 hj2) h
        refine ⟨h1.trans (data_one ?_), h2⟩
        rw [HPRE.out, List.take_of_length_le (by simp)]
      have hex : t.extract 0 t.size = t := data_one (by rw [extract_pre, List.take_of_length_le (by simp)])
      rw [hex] at aR1 aO1 hB1 hnm HSP
      have aR := aR1
      have aO := aO1
      have hB := hB1
      have hown : OwnB 48 (V.alloc (.cells #[.string t, .slice none 0 0] 32)) (w.heap.size + 1 + 1) (.slice none 0 0) [] := OwnB.nil_ _ _ _
      have HSZ : Hid (∀ l ∈ ([] : List Lab), l.1.size ≤ 1000000 ∧ l.2.size ≤ 1000000) := Lib.hid (by simp)
      clear hall HAL hs1 aR1 aO1 hB1 HPRE hex
      have CT := Lib.hid (rText8_any t _ [] _ hown.labs hnm HSZ.out)
      obtain ⟨o0, o1, o2, o3⟩ := id aO
      by_cases hq : textS t [] = t ∧ t ≠ ByteArray.empty
      · have hR := textS_one hq.1 hq.2
        have HR := Lib.hid hR
        have hne : (t.toList == ([] : List UInt8)) = false := by
          rw [beq_eq_false_iff_ne]
          exact fun h => hq.2 (toList_one.1 (h.trans empty_list.symm))
        rw [hq.1] at CT
        clear hq hR
        go_wp2_with fail
        refine (CT.out).mono ?_; rintro e6 w4 ⟨rfl, hq⟩
        have aR4 := aR.below hq
        have aO4 := aO.below hq
        have hown4 := hown.below hq
        have hB4 := ext_step hB hq
        clear o0 o1 o2 o3
        obtain ⟨r0, r1, r2, r3⟩ := id aR4
        obtain ⟨o0, o1, o2, o3⟩ := id aO4
        have HF := Lib.hid ((aR4.set0 (.string t)).set1 (.slice none 0 0))
        have HG := Lib.hid (((hown4.away (p := ⟨w.heap.size, 0, none⟩) (by dsimp only; omega) (.string t)).away (p := ⟨w.heap.size, 1, none⟩) (by dsimp only; omega) (.slice none 0 0)).less (show w.heap.size ≤ w.heap.size + 1 + 1 by omega))
        have HB5 := Lib.hid ((hB4.setCell (p := ⟨w.heap.size, 0, none⟩) (Nat.le_refl _) (.string t)).setCell (p := ⟨w.heap.size, 1, none⟩) (Nat.le_refl _) (.slice none 0 0))
        go_wp2_with fail
        have z0 := HF.out.c0
        have z1 := HF.out.c1
        exact bodyPost_ret (v := .tuple #[.agg #[.string t, .slice none 0 0], .bool true]) (by simp [results, Tryz.results23, go_sem, z0, z1]) rfl (Or.inl ⟨_, _, _, HR.out.1, HR.out.2, rfl, HG.out, HB5.out⟩)
      · have hNO : Hid (∀ n x, IsRight n x → fullS n x ≠ t) := Lib.hid fun n x hr h => by
          obtain ⟨h1, h2⟩ := HSP.out n x hr h
          subst h1; subst h2
          exact hq ⟨(if_pos hr).trans h, fun h0 => full_some hr (h.trans h0)⟩
        have hcase : (textS t [] = t ∧ t = ByteArray.empty) ∨ textS t [] ≠ t := by
          by_cases h : textS t [] = t
          · exact Or.inl ⟨h, Classical.byContradiction fun h0 => hq ⟨h, h0⟩⟩
          · exact Or.inr h
        clear hq
        rcases hcase with ⟨h1, h2⟩ | h1
        · have hne : (t.toList == ([] : List UInt8)) = true := by rw [h2, empty_list]; rfl
          rw [h1] at CT
          clear h1 h2
          go_wp2_with fail
          refine (CT.out).mono ?_; rintro e6 w4 ⟨rfl, hq⟩
          have aR4 := aR.below hq
          have hB4 := ext_step hB hq
          obtain ⟨r0, r1, r2, r3⟩ := id aR4
          have HB5 := Lib.hid ((hB4.setCell (p := ⟨w.heap.size, 0, none⟩) (Nat.le_refl _) (.string ByteArray.empty)).setCell (p := ⟨w.heap.size, 1, none⟩) (Nat.le_refl _) (.slice none 0 0))
          go_wp2_with fail
          exact bodyPost_ret (v := .tuple #[.agg #[.string ByteArray.empty, .slice none 0 0], .bool false]) (by simp [results, Tryz.results23, go_sem, r0, r1]; rfl) rfl (Or.inr ⟨hNO.out, rfl, HB5.out⟩)
        · have hne : ((textS t []).toList == t.toList) = false := by
            rw [beq_eq_false_iff_ne]
            exact fun h => h1 (toList_one.1 h)
          clear h1
          generalize textS t [] = q at *
          go_wp2_with fail
          refine (CT.out).mono ?_; rintro e6 w4 ⟨rfl, hq⟩
          have aR4 := aR.below hq
          have hB4 := ext_step hB hq
          obtain ⟨r0, r1, r2, r3⟩ := id aR4
          have HB5 := Lib.hid ((hB4.setCell (p := ⟨w.heap.size, 0, none⟩) (Nat.le_refl _) (.string ByteArray.empty)).setCell (p := ⟨w.heap.size, 1, none⟩) (Nat.le_refl _) (.slice none 0 0))
          go_wp2_with fail
          exact bodyPost_ret (v := .tuple #[.agg #[.string ByteArray.empty, .slice none 0 0], .bool false]) (by simp [results, Tryz.results23, go_sem, r0, r1]; rfl) rfl (Or.inr ⟨hNO.out, rfl, HB5.out⟩)
end Go.Proofs.YteiilmnehdbdiaaGreatDoor
