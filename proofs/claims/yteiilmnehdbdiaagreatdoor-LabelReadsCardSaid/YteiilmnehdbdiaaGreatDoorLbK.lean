/- Package label: what a text is cut into; Parse, walked. -/
import Derived.Test.YteiilmnehdbdiaaGreatDoorLbG
import Derived.Test.YteiilmnehdbdiaaGreatDoorLabS
import Derived.Lib.Split
import Derived.Lib.IndexBytes
import Derived.Lib.SplitLaws
import Derived.Test.YteiilmnehdbdiaaGreatDoorLabC
namespace Go.Proofs.YteiilmnehdbdiaaGreatDoor

section
open Go.RowKit

theorem idx_no : ∀ {l : List UInt8} {c : UInt8}, (∀ b ∈ l, b ≠ c) → Lib.indexByte l c = -1
  | [], _, _ => rfl
  | b :: l, c, h => by
    have h0 : b ≠ c := h b (List.mem_cons_self ..)
    have ih := idx_no (l := l) (c := c) fun x hx => h x (List.mem_cons_of_mem _ hx)
    unfold Lib.indexByte
    rw [if_neg (by simpa using h0), ih]; rfl
theorem idx_app : ∀ {a : List UInt8} (b : List UInt8) {c : UInt8}, (∀ x ∈ a, x ≠ c) → Lib.indexByte (a ++ c :: b) c = a.length
  | [], b, c, _ => by simp [Lib.indexByte]
  | x :: a, b, c, h => by
    have h0 : x ≠ c := h x (List.mem_cons_self ..)
    have ih := idx_app (a := a) b (c := c) fun y hy => h y (List.mem_cons_of_mem _ hy)
    rw [List.cons_append]
    unfold Lib.indexByte
    rw [if_neg (by simpa using h0), ih, if_neg (by simp), List.length_cons]
    omega
/-- A text cut at a sign: what is before, what is behind, whether the sign is there. -/
def cutS (s : ByteArray) (c : UInt8) : ByteArray × ByteArray × Bool :=
  if 0 ≤ Lib.indexByte s.data.toList c then (s.extract 0 (Lib.indexByte s.data.toList c).toNat, s.extract ((Lib.indexByte s.data.toList c).toNat + 1) s.size, true) else (s, ByteArray.empty, false)
theorem cutS_no {s : ByteArray} {c : UInt8} (h : ∀ b ∈ s.data.toList, b ≠ c) : cutS s c = (s, ByteArray.empty, false) := by
  unfold cutS; rw [idx_no h]; rfl
theorem cutS_app {s : ByteArray} {c : UInt8} {a b : List UInt8} (e : s.data.toList = a ++ c :: b) (h : ∀ x ∈ a, x ≠ c) : (cutS s c).1.data.toList = a ∧ (cutS s c).2.1.data.toList = b ∧ (cutS s c).2.2 = true := by
  have hs : s.size = a.length + 1 + b.length := by
    have := congrArg List.length e
    rw [Array.length_toList, List.length_append, List.length_cons] at this
    show s.data.size = _
    omega
  unfold cutS
  rw [e, idx_app b h, if_pos (by omega), Int.toNat_natCast]
  refine ⟨?_, ?_, rfl⟩
  · show (s.extract 0 a.length).data.toList = a
    rw [extract_pre, e]; simp
  · show (s.extract (a.length + 1) s.size).data.toList = b
    rw [ByteArray.data_extract, Array.toList_extract, e, List.extract_eq_take_drop]
    rw [hs]
    simp
theorem cutS_size (s : ByteArray) (c : UInt8) : (cutS s c).1.size ≤ s.size ∧ (cutS s c).2.1.size ≤ s.size := by
  unfold cutS
  split
  · refine ⟨?_, ?_⟩ <;> simp only [ByteArray.size_extract] <;> omega
  · exact ⟨Nat.le_refl _, Nat.zero_le _⟩
/-- A text cut at its commas: into nine pieces at most. -/
def pcs (s : ByteArray) : List ByteArray := Lib.splitB (oneS 44) 0 (min 9 (s.size + 1) - 1) s
theorem splitK_join : ∀ (ps : List (List UInt8)) (k : Nat), ps ≠ [] → ps.length ≤ k + 1 → (∀ p ∈ ps, ∀ b ∈ p, b ≠ 44) → Lib.splitK [44] 0 k (Lib.join ps [44]) = ps
  | [], _, h, _, _ => absurd rfl h
  | [p], k, _, _, hp => by
    rw [Lib.join_one]
    have h := hp p (List.mem_cons_self ..)
    cases k with
    | zero => rfl
    | succ k => unfold Lib.splitK; rw [Lib.index_one, idx_no h]; rfl
  | p :: q :: t, k, _, hk, hp => by
    have h := hp p (List.mem_cons_self ..)
    obtain ⟨k, rfl⟩ : ∃ j, k = j + 1 := ⟨k - 1, by simp at hk; omega⟩
    have ih := splitK_join (q :: t) k (by simp) (by simp at hk ⊢; omega) fun r hr => hp r (List.mem_cons_of_mem _ hr)
    have e : Lib.join (p :: q :: t) [44] = p ++ 44 :: Lib.join (q :: t) [44] := by
      rw [Lib.join_cons, Lib.join_cons]; simp [Lib.joinTail]
    rw [e]
    unfold Lib.splitK
    rw [Lib.index_one, idx_app _ h, if_neg (by simp), Int.toNat_natCast]
    simp [ih]
theorem pcs_join {x : List Lab} {s : ByteArray} (hx : x ≠ []) (hs : s.data.toList = Lib.join ((x.map nv).map (·.data.toList)) [44]) (hp : ∀ l ∈ x, ∀ b ∈ (nv l).data.toList, b ≠ 44) (h8 : x.length ≤ 9) (hz : x.length ≤ s.size + 1) : pcs s = x.map nv := by
  have h1 : (pcs s).map (·.data.toList) = (x.map nv).map (·.data.toList) := by
    unfold pcs
    rw [Lib.splitB_data, hs, show (oneS 44).data.toList = [44] from rfl]
    refine splitK_join _ _ (by simpa using hx) (by simp; omega) fun p hpm b hb => ?_
    simp only [List.mem_map] at hpm
    obtain ⟨q, ⟨l, hl, rfl⟩, rfl⟩ := hpm
    exact hp l hl b hb
  have inj : ∀ a b : List ByteArray, a.map (·.data.toList) = b.map (·.data.toList) → a = b := fun a => by
    induction a with
    | nil => intro b h; cases b with
      | nil => rfl
      | cons _ _ => cases h
    | cons y a ih => intro b h; cases b with
      | nil => cases h
      | cons z b => simp only [List.map_cons, List.cons.injEq] at h; rw [data_one h.1, ih b h.2]
  exact inj _ _ h1

/-! a text of a right series is cut into what it was made of -/
def trimS (s : ByteArray) : ByteArray := ⟨(Lib.trimSuffix s.data.toList (oneS 125).data.toList).toArray⟩
def labP (p : ByteArray) : Lab := ((cutS p 61).1, (cutS p 61).2.1)
def parsA (t : ByteArray) : List Lab := if (cutS t 123).2.2 = true then (pcs (trimS (cutS t 123).2.1)).map labP else []
theorem nv_bytes (l : Lab) : (nv l).data.toList = l.1.data.toList ++ 61 :: l.2.data.toList := by
  simp only [nv, app_data, oneS]; simp
theorem labP_nv {l : Lab} (h : IsName l.1) : labP (nv l) = l := by
  obtain ⟨h1, h2, -⟩ := cutS_app (nv_bytes l) fun c hc => (name_plain h c hc).1
  unfold labP
  rw [data_one h1, data_one h2]
theorem bodyP_ge : ∀ x : List Lab, x.length ≤ (bodyP (x.map labB)).length
  | [] => Nat.zero_le _
  | [l] => by simp [bodyP, labB]; omega
  | l :: m :: t => by
    have ih := bodyP_ge (m :: t)
    simp only [List.map_cons] at ih ⊢
    rw [bodyP]
    simp at ih ⊢
    omega
theorem trim_last (j : List UInt8) : Lib.trimSuffix (j ++ [125]) [125] = j := by
  unfold Lib.trimSuffix Lib.hasSuffix
  rw [if_pos (by rw [List.isSuffixOf_iff_suffix]; exact List.suffix_append _ _)]
  simp
theorem pars_back {n t : ByteArray} {x : List Lab} (hr : IsRight n x) (h : fullS n x = t) : (cutS t 123).1 = n ∧ parsA t = x := by
  have ht := full_bytes n x
  rw [h] at ht
  have hn : ∀ c ∈ n.data.toList, c ≠ 123 := fun c hc => (name_plain hr.1 c hc).2.2.2
  by_cases h0 : x = []
  · rw [if_pos h0, List.append_nil] at ht
    have e := data_one ht
    subst e
    unfold parsA
    rw [cutS_no hn]
    exact ⟨rfl, by rw [h0]; rfl⟩
  · rw [if_neg h0] at ht
    obtain ⟨h1, h2, h3⟩ := cutS_app ht hn
    refine ⟨data_one h1, ?_⟩
    unfold parsA
    rw [if_pos h3]
    have hj := join_body x h0
    have hT : (trimS (cutS t 123).2.1).data.toList = Lib.join ((x.map nv).map (·.data.toList)) [44] := by
      unfold trimS
      rw [h2, ← hj]
      show (Lib.trimSuffix _ [125]) = _
      exact trim_last _
    have hlen : x.length ≤ (trimS (cutS t 123).2.1).size + 1 := by
      have h4 := bodyP_ge x
      rw [← hj, List.length_append, ← hT] at h4
      exact h4
    rw [pcs_join h0 hT ?_ (by have := hr.2.1; omega) hlen, List.map_map]
    · conv => rhs; rw [← List.map_id x]
      exact List.map_congr_left fun l hl => labP_nv (hr.2.2.1 l hl).1
    · intro l hl b hb
      rw [nv_bytes] at hb
      rcases List.mem_append.1 hb with hb | hb
      · exact (name_plain (hr.2.2.1 l hl).1 b hb).2.1
      · rcases List.mem_cons.1 hb with rfl | hb
        · decide
        · exact (val_plain (hr.2.2.1 l hl).2 b hb).2.1
/-! how much is read -/
theorem splitB_size (sep : ByteArray) : ∀ (k : Nat) (s : ByteArray), ∀ p ∈ Lib.splitB sep 0 k s, p.size ≤ s.size
  | 0, s, p, h => by rw [Lib.splitB_zero, List.mem_singleton] at h; rw [h]; exact Nat.le_refl _
  | k + 1, s, p, h => by
    unfold Lib.splitB at h
    split at h
    · rw [List.mem_singleton] at h; rw [h]; exact Nat.le_refl _
    · rcases List.mem_cons.1 h with rfl | h
      · rw [ByteArray.size_extract]; omega
      · have := splitB_size sep k _ p h
        rw [ByteArray.size_extract] at this
        omega
theorem pcs_len (s : ByteArray) : (pcs s).length ≤ 9 := by
  have := Lib.splitB_length_le (oneS 44) 0 (min 9 (s.size + 1) - 1) s
  unfold pcs; omega
theorem trimS_size (s : ByteArray) : (trimS s).size ≤ s.size := by
  show (List.toArray _).size ≤ s.data.size
  rw [List.size_toArray, ← Array.length_toList]
  unfold Lib.trimSuffix
  split
  · rw [List.length_take]; omega
  · exact Nat.le_refl _
end

section
open Go.RowKit

theorem idx_cases (l : List UInt8) (c : UInt8) : Lib.indexByte l c = -1 ∨ ∃ i : Nat, Lib.indexByte l c = i ∧ i < l.length := by
  have hge := Lib.indexByte_ge l c
  by_cases h : Lib.indexByte l c = -1
  · exact Or.inl h
  · obtain ⟨i, hi⟩ := Int.eq_ofNat_of_zero_le (show 0 ≤ Lib.indexByte l c by omega)
    refine Or.inr ⟨i, hi, ?_⟩
    have := (Lib.indexByte_some hi).1
    exact (List.getElem?_eq_some_iff.1 this).1
theorem cutS_miss {s : ByteArray} {c : UInt8} (h : Lib.indexByte s.data.toList c = -1) : cutS s c = (s, ByteArray.empty, false) := by
  unfold cutS; rw [h]; rfl
theorem cutS_hit {s : ByteArray} {c : UInt8} {i : Nat} (h : Lib.indexByte s.data.toList c = i) : cutS s c = (s.extract 0 i, s.extract (i + 1) s.size, true) := by
  unfold cutS; rw [h, if_pos (by omega), Int.toNat_natCast]

set_option maxRecDepth 100000 in
set_option maxHeartbeats 1000000 in
theorem litecut8_any (s : ByteArray) (c : UInt8) (w : World) (hs : s.size ≤ 1000000) : Calls Tryz.prog 68 #[.string s, .string (oneS c)] w fun e w' => e = .returned (.tuple #[.string (cutS s c).1, .string (cutS s c).2.1, .bool (cutS s c).2.2]) ∧ ∃ d, w.drewN d = w' := by
  have CI := Lib.hid fun W => Tryz.stringslite_Index_one s c W
  have hone : (oneS c).size = 1 := rfl
  rcases idx_cases s.data.toList c with h | ⟨i, h, hi⟩
  · rw [h] at CI
    have hE := Lib.hid (cutS_miss h)
    clear h
    go_enter Tryz.func68, Tryz.ntmps68
    go_wp2_with fail
    refine (CI.out _).mono ?_; rintro e w1 ⟨rfl, rfl⟩
    go_wp2_with fail
    go_ret3
    exact ⟨by rw [hE.out]; rfl, 0, rfl⟩
  · rw [h] at CI
    have hE := Lib.hid (cutS_hit h)
    have hi : i < s.size := by rw [Array.length_toList] at hi; exact hi
    have c1 : (0 : Int) ≤ (i : Int) := by omega
    have c2 : (i : Int) ≤ (s.size : Int) := by omega
    have c3 : (0 : Int) ≤ (i : Int) + 1 := by omega
    have c4 : (i : Int) + 1 ≤ (s.size : Int) := by omega
    clear h
    go_enter Tryz.func68, Tryz.ntmps68
    go_wp2_with fail
    refine (CI.out _).mono ?_; rintro e w1 ⟨rfl, rfl⟩
    go_wp2_with fail
    go_quiet (fail)
    go_wp2_with fail
    go_ret3
    exact ⟨by rw [hE.out]; rfl, _, rfl⟩
set_option maxRecDepth 100000 in
set_option maxHeartbeats 1000000 in
theorem cut8_any (s : ByteArray) (c : UInt8) (w : World) (hs : s.size ≤ 1000000) : Calls Tryz.prog 47 #[.string s, .string (oneS c)] w fun e w' => e = .returned (.tuple #[.string (cutS s c).1, .string (cutS s c).2.1, .bool (cutS s c).2.2]) ∧ ∃ d, w.drewN d = w' := by
  have CI := Lib.hid fun W => litecut8_any s c W hs
  generalize cutS s c = q at *
  obtain ⟨q0, q1, q2⟩ := q
  go_enter Tryz.func47, Tryz.ntmps47
  go_wp2_with fail
  refine (CI.out _).mono ?_; rintro e w1 ⟨rfl, hd⟩
  go_wp2_with fail
  go_ret3
  exact ⟨rfl, hd⟩

theorem split_gen (s : ByteArray) (w : World) (hs : s.size ≤ 1000000) : Calls Tryz.prog 81 #[.string s, .string (oneS 44), .int .i64 0, .int .i64 9] w fun e w' =>
    e = .returned (.slice (some ⟨w.heap.size, 0, none⟩) (pcs s).length (min 9 (s.size + 1))) ∧ w' = w.alloc (.cells (Lib.cellsOf (pcs s) (min 9 (s.size + 1))) 9) := by
  have hI : ∀ (x : ByteArray) (c : Array Value), x.size ≤ s.size → Calls Tryz.prog 104 #[.string x, .string (oneS 44)] (w.alloc (.cells c 9)) fun e w' => e = .returned (.int .i64 (Lib.indexB x (oneS 44))) ∧ w' = w.alloc (.cells c 9) := fun x c _ => by
    have := Tryz.strings_Index_one x 44 (w.alloc (.cells c 9))
    rw [← Lib.index_one] at this
    exact this
  have hC : Calls Tryz.prog 103 #[.string s, .string (oneS 44)] w fun e w' => e = .returned (.int .i64 (Lib.countB s (oneS 44))) ∧ w' = w := by
    have := Tryz.strings_Count_one s 44 w
    rw [show Lib.countByte s.data.toList 44 = Lib.countB s (oneS 44) from (Lib.count_one 44 _).symm] at this
    exact this
  exact Any.strings_genSplit_core Tryz.lays221 (by kernel_rfl) s (oneS 44) 0 9 (min 9 (s.size + 1)) w (by omega) (by decide) (by decide) hI hC (by decide) (by decide) (by rw [if_neg (by decide)]; omega)

set_option maxRecDepth 100000 in
set_option maxHeartbeats 1000000 in
theorem splitN8_any (s : ByteArray) (w : World) (hs : s.size ≤ 1000000) : Calls Tryz.prog 69 #[.string s, .string (oneS 44), .int .i64 9] w fun e w' =>
    e = .returned (.slice (some ⟨w.heap.size, 0, none⟩) (pcs s).length (min 9 (s.size + 1))) ∧ w' = w.alloc (.cells (Lib.cellsOf (pcs s) (min 9 (s.size + 1))) 9) := by
  have CI := Lib.hid fun W => split_gen s W hs
  generalize pcs s = ps at *
  go_enter Tryz.func69, Tryz.ntmps69
  go_wp2_with fail
  refine (CI.out _).mono ?_; rintro e w1 ⟨rfl, rfl⟩
  go_wp2_with fail
  go_ret
  exact ⟨rfl, rfl⟩
end

section
open Go.RowKit

set_option maxRecDepth 100000 in
set_option maxHeartbeats 2000000 in
theorem split8_any (s : ByteArray) (w : World) (hs : s.size ≤ 1000000) : Calls Tryz.prog 48 #[.string s] w fun e w' =>
    ∃ v, e = .returned v ∧ OwnB 45 w' w.heap.size v ((pcs s).map labP) ∧ Below w.heap.size w w' := by
  obtain ⟨i0, hi, hz0, hz1, hz2⟩ := info_parts labelW_info
  have CS := Lib.hid (splitN8_any s w hs)
  have hN : (pcs s).length ≤ min 9 (s.size + 1) := by
    have := Lib.splitB_length_le (oneS 44) 0 (min 9 (s.size + 1) - 1) s
    unfold pcs; omega
  have hZ : Hid (∀ p ∈ pcs s, p.size ≤ 1000000) := Lib.hid fun p hp => Nat.le_trans (splitB_size _ _ _ p hp) hs
  have hB0 := grew1 w (.cells (Lib.cellsOf (pcs s) (min 9 (s.size + 1))) 9)
  have hsz0 := World.size_alloc w (.cells (Lib.cellsOf (pcs s) (min 9 (s.size + 1))) 9)
  have HC : Hid (∀ j (h : j < (pcs s).length), (w.alloc (.cells (Lib.cellsOf (pcs s) (min 9 (s.size + 1))) 9)).cell? ⟨w.heap.size, j, none⟩ = some (.string (pcs s)[j])) := Lib.hid fun j h => by
    rw [World.cell?_alloc_new]
    unfold Lib.cellsOf
    rw [List.getElem?_toArray, List.getElem?_append_left (by simpa using h)]
    simp [h]
  have h9 := pcs_len s
  clear hs
  generalize min 9 (s.size + 1) = N at *
  generalize pcs s = ps at *
  go_enter Tryz.func48, Tryz.ntmps48
  go_wp2_with fail
  refine (CS.out).mono ?_; rintro e w1 ⟨rfl, rfl⟩
  generalize w.alloc (.cells (Lib.cellsOf ps N) 9) = W at *
  go_wp2_with fail
  go_loopw [3, 12] (fun o i wr => ∃ k : Nat, k ≤ ps.length ∧ i = .int .i64 k ∧ OwnB 45 wr W.heap.size o ((ps.take k).map labP) ∧ Below W.heap.size W wr) (fun _ i _ => ps.length - (intOf i).toNat)
  case atStart => exact ⟨0, Nat.zero_le _, rfl, OwnB.nil_ _ _ _, Below.refl _ _⟩
  case round =>
    obtain ⟨k, hk, rfl, hown, hB⟩ := hrel
    by_cases hlt : k < ps.length
    · have x0 : wr.cell? ⟨w.heap.size, k, none⟩ = some (.string ps[k]) := (hB.cell (by dsimp only; omega)).trans (HC.out k hlt)
      have j0 : (0 : Int) ≤ (k : Int) := by omega
      have j1 : (k : Int) < (ps.length : Int) := by omega
      have CC := Lib.hid fun W' => cut8_any ps[k] 61 W' (hZ.out _ (List.getElem_mem hlt))
      have HS : Hid ((ps.take (k + 1)).map labP = (ps.take k).map labP ++ [((cutS ps[k] 61).1, (cutS ps[k] 61).2.1)]) := Lib.hid (by rw [List.take_succ_eq_append_getElem hlt, List.map_append]; rfl)
      have hlen : ((ps.take k).map labP).length = k := by rw [List.length_map, List.length_take]; omega
      generalize (ps.take k).map labP = acc at *
      generalize cutS ps[k] 61 = q at *
      obtain ⟨q0, q1, q2⟩ := q
      generalize ps[k] = p at *
      go_wp2_with fail
      refine (CC.out _).mono ?_; rintro e w2 ⟨rfl, d, rfl⟩
      have hown2 := hown.drewN d
      have hB2 := below_drewN hB d
      have hsz2 : W.heap.size ≤ (wr.drewN d).heap.size := hB2.size
      clear x0
      generalize wr.drewN d = V at *
      go_wp2_with (at_builtin; go_must (refine wpList_append_cells _ rfl (.tmp 22) (.tmp 26) 22 rfl W.heap.size 45 i0 (.agg #[.string ByteArray.empty, .string ByteArray.empty]) 2 32 Tryz.underlying22 hi hz0 hz1 hz2 rfl (by decide) _ acc.length (cellsB acc) rfl (World.ownsRow.alloc hown2 _) _ 1 1 [.string q0, .string q1] rfl rfl (lab_src _ _ _ _ _ (Lib.hid rfl)) (two_strs _ _) (by unfold maxLen; omega) (by omega) (Nat.le_trans hsz2 (by simp)) ?_); intro v5 w5 hown5 hgrow5)
      obtain ⟨hown6, hq⟩ := hown2.grew hsz2 hown5 hgrow5
      rw [← HS.out] at hown6
      go_roundw
      case rel => exact ⟨k + 1, hlt, by go_num, hown6, hB2.trans hq⟩
      case measure => simp [intOf]; omega
    · obtain rfl : k = ps.length := by omega
      have j1 : ¬ (ps.length : Int) < (ps.length : Int) := by omega
      rw [List.take_length] at hown
      go_wp2_with fail
      go_ret
      exact ⟨_, rfl, hown.less (by omega), hB0.trans (hB.mono (by omega))⟩
end

section
open Go.RowKit

theorem trim8_any (s : ByteArray) (w : World) (hs : s.size ≤ 1000000) : Calls Tryz.prog 49 #[.string s, .string (oneS 125)] w fun e w' => e = .returned (.string (trimS s)) ∧ w' = w :=
  Tryz.strings_TrimSuffix s (oneS 125) w (by omega)
theorem parsA_sizes (t : ByteArray) : (parsA t).length ≤ 9 ∧ ∀ l ∈ parsA t, l.1.size ≤ t.size ∧ l.2.size ≤ t.size := by
  unfold parsA
  split
  · refine ⟨by rw [List.length_map]; exact pcs_len _, fun l hl => ?_⟩
    obtain ⟨p, hp, rfl⟩ := List.mem_map.1 hl
    have h1 := splitB_size _ _ _ p hp
    have h2 := trimS_size (cutS t 123).2.1
    have h3 := (cutS_size t 123).2
    have h4 := cutS_size p 61
    exact ⟨by show (cutS p 61).1.size ≤ _; omega, by show (cutS p 61).2.1.size ≤ _; omega⟩
  · exact ⟨Nat.zero_le _, fun l h => absurd h (by simp)⟩

set_option maxRecDepth 100000 in
set_option maxHeartbeats 4000000 in
theorem parse8_any (t : ByteArray) (w : World) (ht : t.size ≤ 100000) : Calls Tryz.prog 22 #[.string t] w (ParE w t) := by
  have aR := At2.new w (.string (ByteArray.mk #[])) (.slice none 0 0) 24
  have hB0 := grew1 w (.cells #[.string (ByteArray.mk #[]), .slice none 0 0] 24)
  have hWs := World.size_alloc w (.cells #[.string (ByteArray.mk #[]), .slice none 0 0] 24)
  have CC := Lib.hid fun W => cut8_any t 123 W (by omega)
  have HNO : Hid (¬ (IsRight (cutS t 123).1 (parsA t) ∧ fullS (cutS t 123).1 (parsA t) = t) → ∀ n x, IsRight n x → fullS n x ≠ t) := Lib.hid fun h n x hr e => h (by
    obtain ⟨h1, h2⟩ := pars_back hr e
    rw [h1, h2]; exact ⟨hr, e⟩)
  obtain ⟨hx9, hxz⟩ := parsA_sizes t
  have HXZ : Hid (∀ l ∈ parsA t, l.1.size ≤ 1000000 ∧ l.2.size ≤ 1000000) := Lib.hid fun l hl => by have := hxz l hl; omega
  obtain ⟨hc1, hc2⟩ := cutS_size t 123
  have HXY : Hid ((cutS t 123).2.2 = true → ((pcs (trimS (cutS t 123).2.1)).map labP = parsA t)) := Lib.hid fun h => by unfold parsA; rw [if_pos h]
  have HXN : Hid ((cutS t 123).2.2 = false → [] = parsA t) := Lib.hid fun h => by unfold parsA; rw [if_neg (by rw [h]; decide)]
  have hts := trimS_size (cutS t 123).2.1
  have CT := Lib.hid fun W => trim8_any (cutS t 123).2.1 W (by omega)
  have CP := Lib.hid fun W => split8_any (trimS (cutS t 123).2.1) W (by omega)
  generalize (pcs (trimS (cutS t 123).2.1)).map labP = px at *
  generalize trimS (cutS t 123).2.1 = tr at *
  generalize parsA t = x at *
  generalize cutS t 123 = q at *
  obtain ⟨nm, rest, lab⟩ := q
  dsimp only at *
  clear hxz hc2 hts
  cases lab with
  | false =>
    have hx0 := HXN.out rfl
    subst hx0
    clear HXY HXN CT CP
    go_enter Tryz.func22, Tryz.ntmps22
    go_wp2_with fail
    refine (CC.out _).mono ?_; rintro e w1 ⟨rfl, d, rfl⟩
    have aR1 := aR.drewN d
    have hB1 := below_drewN hB0 d
    have hWs1 : ((w.alloc (.cells #[.string (ByteArray.mk #[]), .slice none 0 0] 24)).drewN d).heap.size = w.heap.size + 1 := hWs
    clear aR hB0 hWs
    generalize (w.alloc (.cells #[.string (ByteArray.mk #[]), .slice none 0 0] 24)).drewN d = V at *
    have aR2 := aR1.alloc (.cells #[.string nm, .slice none 0 0] 24)
    have aO2 := At2.new V (.string nm) (.slice none 0 0) 24
    rw [hWs1] at aO2
    have hB2 := ext_alloc hB1 (.cells #[.string nm, .slice none 0 0] 24)
    have hs2 : w.heap.size + 1 + 1 ≤ (V.alloc (.cells #[.string nm, .slice none 0 0] 24)).heap.size := by rw [World.size_alloc, hWs1]; exact Nat.le_refl _
    have hown : OwnB 45 (V.alloc (.cells #[.string nm, .slice none 0 0] 24)) (w.heap.size + 1 + 1) (.slice none 0 0) [] := OwnB.nil_ _ _ _
    clear aR1 hB1
    obtain ⟨o0, o1, o2, o3⟩ := id aO2
    go_upto_region 5 with fail
    clear o0 o1 o2 o3
    generalize V.alloc (.cells #[.string nm, .slice none 0 0] 24) = W at *
    have HN := Lib.hid hown.labs
    have CR := Lib.hid (right8_any nm _ _ W HN.out (by omega) (by omega) HXZ.out)
    obtain ⟨o0, o1, o2, o3⟩ := id aO2
    by_cases hr : IsRight nm ([] : List Lab)
    case neg =>
      have hno := Lib.hid (HNO.out fun h => hr h.1)
      rw [decide_eq_false hr] at CR
      clear hr HNO
      go_wp2_with fail
      refine (CR.out).mono ?_; rintro e4 w4 ⟨rfl, hq4⟩
      have aR4 := aR2.below hq4
      have hB4 := hB2.trans (hq4.mono (by omega))
      have HF := Lib.hid ((aR4.set0 (.string ByteArray.empty)).set1 (.slice none 0 0))
      have HB5 := Lib.hid ((hB4.setCell (p := ⟨w.heap.size, 0, none⟩) (Nat.le_refl _) (.string ByteArray.empty)).setCell (p := ⟨w.heap.size, 1, none⟩) (Nat.le_refl _) (.slice none 0 0))
      clear o0 o1 o2 o3
      obtain ⟨r0, r1, r2, r3⟩ := id aR4
      go_wp2_with fail
      have z0 := HF.out.c0
      have z1 := HF.out.c1
      exact bodyPost_ret (v := .tuple #[.agg #[.string ByteArray.empty, .slice none 0 0], .bool false]) (by simp [results, Tryz.results22, go_sem, r0, r1]; rfl) rfl (Or.inr ⟨hno.out, _, rfl, Labs.nil _ _, HB5.out⟩)
    have HR := Lib.hid hr
    rw [decide_eq_true hr] at CR
    have HTX : Hid (textS nm ([] : List Lab) = fullS nm ([] : List Lab)) := Lib.hid (by unfold textS; rw [if_pos hr])
    clear hr
    go_wp2_with fail
    refine (CR.out).mono ?_; rintro e4 w4 ⟨rfl, hq4⟩
    have aR4 := aR2.below hq4
    have aO4 := aO2.below hq4
    have hown4 := hown.below hq4
    have hB4 := hB2.trans (hq4.mono (by omega))
    have hs4 := Nat.le_trans hs2 hq4.size
    have HN4 := Lib.hid hown4.labs
    have CX := Lib.hid (text8_any nm _ _ w4 HN4.out (by omega) (by omega) HXZ.out)
    rw [HTX.out] at CX
    clear o0 o1 o2 o3 HTX CR
    generalize hfs : fullS nm ([] : List Lab) = fs at *
    have HFS := Lib.hid hfs
    clear hfs
    obtain ⟨o0, o1, o2, o3⟩ := id aO4
    have keep := HNO
    by_cases hf : fs = t
    · have e1 : (fs.toList == t.toList) = true := by rw [hf]; exact beq_self_eq_true _
      have hft := Lib.hid (HFS.out.trans hf)
      go_wp2_with fail
      refine (CX.out).mono ?_; rintro e5 w5 ⟨rfl, hq5⟩
      have aR5 := aR4.below hq5
      have aO5 := aO4.below hq5
      have hown5 := hown4.below hq5
      have hB5 := hB4.trans (hq5.mono (by omega))
      have HF := Lib.hid ((aR5.set0 (.string nm)).set1 (.slice none 0 0))
      have HGo := Lib.hid ((hown5.away (p := ⟨w.heap.size, 0, none⟩) (by dsimp only; omega) (.string nm)).away (p := ⟨w.heap.size, 1, none⟩) (by dsimp only; omega) (.slice none 0 0)).labs
      have HB6 := Lib.hid ((hB5.setCell (p := ⟨w.heap.size, 0, none⟩) (Nat.le_refl _) (.string nm)).setCell (p := ⟨w.heap.size, 1, none⟩) (Nat.le_refl _) (.slice none 0 0))
      clear o0 o1 o2 o3 hf
      obtain ⟨o0, o1, o2, o3⟩ := id aO5
      obtain ⟨r0, r1, r2, r3⟩ := id aR5
      go_wp2_with fail
      have z0 := HF.out.c0
      have z1 := HF.out.c1
      exact bodyPost_ret (v := .tuple #[.agg #[.string nm, (.slice none 0 0)], .bool true]) (by simp [results, Tryz.results22, go_sem, z0, z1]) rfl (Or.inl ⟨_, _, _, HR.out, hft.out, rfl, HGo.out, HB6.out⟩)
    · have e1 : (fs.toList == t.toList) = false := by
        rw [beq_eq_false_iff_ne]
        exact fun h => hf (toList_one.1 h)
      have hno := Lib.hid (keep.out fun h => hf h.2)
      go_wp2_with fail
      refine (CX.out).mono ?_; rintro e5 w5 ⟨rfl, hq5⟩
      have aR5 := aR4.below hq5
      have hB5 := hB4.trans (hq5.mono (by omega))
      have HF := Lib.hid ((aR5.set0 (.string ByteArray.empty)).set1 (.slice none 0 0))
      have HB6 := Lib.hid ((hB5.setCell (p := ⟨w.heap.size, 0, none⟩) (Nat.le_refl _) (.string ByteArray.empty)).setCell (p := ⟨w.heap.size, 1, none⟩) (Nat.le_refl _) (.slice none 0 0))
      clear o0 o1 o2 o3 hf
      obtain ⟨r0, r1, r2, r3⟩ := id aR5
      go_wp2_with fail
      have z0 := HF.out.c0
      have z1 := HF.out.c1
      exact bodyPost_ret (v := .tuple #[.agg #[.string ByteArray.empty, .slice none 0 0], .bool false]) (by simp [results, Tryz.results22, go_sem, r0, r1]; rfl) rfl (Or.inr ⟨hno.out, _, rfl, Labs.nil _ _, HB6.out⟩)
  | true =>
    have hx0 := HXY.out rfl
    subst hx0
    clear HXY HXN
    go_enter Tryz.func22, Tryz.ntmps22
    go_wp2_with fail
    refine (CC.out _).mono ?_; rintro e w1 ⟨rfl, d, rfl⟩
    have aR1 := aR.drewN d
    have hB1 := below_drewN hB0 d
    have hWs1 : ((w.alloc (.cells #[.string (ByteArray.mk #[]), .slice none 0 0] 24)).drewN d).heap.size = w.heap.size + 1 := hWs
    clear aR hB0 hWs
    generalize (w.alloc (.cells #[.string (ByteArray.mk #[]), .slice none 0 0] 24)).drewN d = V at *
    have aR2 := aR1.alloc (.cells #[.string nm, .slice none 0 0] 24)
    have aO2 := At2.new V (.string nm) (.slice none 0 0) 24
    rw [hWs1] at aO2
    have hB2 := ext_alloc hB1 (.cells #[.string nm, .slice none 0 0] 24)
    have hs2 : w.heap.size + 1 + 1 ≤ (V.alloc (.cells #[.string nm, .slice none 0 0] 24)).heap.size := by rw [World.size_alloc, hWs1]; exact Nat.le_refl _
    clear aR1 hB1
    obtain ⟨o0, o1, o2, o3⟩ := id aO2
    go_wp2_with fail
    generalize V.alloc (.cells #[.string nm, .slice none 0 0] 24) = W0 at *
    refine (CT.out _).mono ?_; rintro e w2 ⟨rfl, rfl⟩
    go_wp2_with fail
    refine (CP.out _).mono ?_; rintro e w3 ⟨u, rfl, hown, hq⟩
    obtain ⟨Ao, co, rfl⟩ := hown.val
    have aR3 := aR2.below hq
    have aO3 := aO2.below hq
    have hB3 := hB2.trans (hq.mono (by omega))
    have hs3 := Nat.le_trans hs2 hq.size
    have hown3 := hown.less hs2
    clear aR2 aO2 hB2 hs2 hown o0 o1 o2 o3 CT CP
    have aR2 := aR3.other (b' := w.heap.size + 1) (by omega) 1 (.slice Ao px.length co)
    have aO2 := aO3.set1 (.slice Ao px.length co)
    have hown := hown3.away (p := ⟨w.heap.size + 1, 1, none⟩) (by dsimp only; omega) (.slice Ao px.length co)
    have hB2 := hB3.setCell (p := ⟨w.heap.size + 1, 1, none⟩) (by dsimp only; omega) (.slice Ao px.length co)
    have hs2 : w.heap.size + 1 + 1 ≤ (w3.setCell ⟨w.heap.size + 1, 1, none⟩ (.slice Ao px.length co)).heap.size := by rw [World.size_setCell]; exact hs3
    obtain ⟨o0, o1, o2, o3⟩ := id aO3
    go_upto_region 5 with fail
    clear o0 o1 o2 o3 aO3 aR3 hown3 hB3
    generalize w3.setCell ⟨w.heap.size + 1, 1, none⟩ (.slice Ao px.length co) = W at *
    have HN := Lib.hid hown.labs
    have CR := Lib.hid (right8_any nm _ _ W HN.out (by omega) (by omega) HXZ.out)
    obtain ⟨o0, o1, o2, o3⟩ := id aO2
    by_cases hr : IsRight nm px
    case neg =>
      have hno := Lib.hid (HNO.out fun h => hr h.1)
      rw [decide_eq_false hr] at CR
      clear hr HNO
      go_wp2_with fail
      refine (CR.out).mono ?_; rintro e4 w4 ⟨rfl, hq4⟩
      have aR4 := aR2.below hq4
      have hB4 := hB2.trans (hq4.mono (by omega))
      have HF := Lib.hid ((aR4.set0 (.string ByteArray.empty)).set1 (.slice none 0 0))
      have HB5 := Lib.hid ((hB4.setCell (p := ⟨w.heap.size, 0, none⟩) (Nat.le_refl _) (.string ByteArray.empty)).setCell (p := ⟨w.heap.size, 1, none⟩) (Nat.le_refl _) (.slice none 0 0))
      clear o0 o1 o2 o3
      obtain ⟨r0, r1, r2, r3⟩ := id aR4
      go_wp2_with fail
      have z0 := HF.out.c0
      have z1 := HF.out.c1
      exact bodyPost_ret (v := .tuple #[.agg #[.string ByteArray.empty, .slice none 0 0], .bool false]) (by simp [results, Tryz.results22, go_sem, r0, r1]; rfl) rfl (Or.inr ⟨hno.out, _, rfl, Labs.nil _ _, HB5.out⟩)
    have HR := Lib.hid hr
    rw [decide_eq_true hr] at CR
    have HTX : Hid (textS nm px = fullS nm px) := Lib.hid (by unfold textS; rw [if_pos hr])
    clear hr
    go_wp2_with fail
    refine (CR.out).mono ?_; rintro e4 w4 ⟨rfl, hq4⟩
    have aR4 := aR2.below hq4
    have aO4 := aO2.below hq4
    have hown4 := hown.below hq4
    have hB4 := hB2.trans (hq4.mono (by omega))
    have hs4 := Nat.le_trans hs2 hq4.size
    have HN4 := Lib.hid hown4.labs
    have CX := Lib.hid (text8_any nm _ _ w4 HN4.out (by omega) (by omega) HXZ.out)
    rw [HTX.out] at CX
    clear o0 o1 o2 o3 HTX CR
    generalize hfs : fullS nm px = fs at *
    have HFS := Lib.hid hfs
    clear hfs
    obtain ⟨o0, o1, o2, o3⟩ := id aO4
    have keep := HNO
    by_cases hf : fs = t
    · have e1 : (fs.toList == t.toList) = true := by rw [hf]; exact beq_self_eq_true _
      have hft := Lib.hid (HFS.out.trans hf)
      go_wp2_with fail
      refine (CX.out).mono ?_; rintro e5 w5 ⟨rfl, hq5⟩
      have aR5 := aR4.below hq5
      have aO5 := aO4.below hq5
      have hown5 := hown4.below hq5
      have hB5 := hB4.trans (hq5.mono (by omega))
      have HF := Lib.hid ((aR5.set0 (.string nm)).set1 (.slice Ao px.length co))
      have HGo := Lib.hid ((hown5.away (p := ⟨w.heap.size, 0, none⟩) (by dsimp only; omega) (.string nm)).away (p := ⟨w.heap.size, 1, none⟩) (by dsimp only; omega) (.slice Ao px.length co)).labs
      have HB6 := Lib.hid ((hB5.setCell (p := ⟨w.heap.size, 0, none⟩) (Nat.le_refl _) (.string nm)).setCell (p := ⟨w.heap.size, 1, none⟩) (Nat.le_refl _) (.slice Ao px.length co))
      clear o0 o1 o2 o3 hf
      obtain ⟨o0, o1, o2, o3⟩ := id aO5
      obtain ⟨r0, r1, r2, r3⟩ := id aR5
      go_wp2_with fail
      have z0 := HF.out.c0
      have z1 := HF.out.c1
      exact bodyPost_ret (v := .tuple #[.agg #[.string nm, (.slice Ao px.length co)], .bool true]) (by simp [results, Tryz.results22, go_sem, z0, z1]) rfl (Or.inl ⟨_, _, _, HR.out, hft.out, rfl, HGo.out, HB6.out⟩)
    · have e1 : (fs.toList == t.toList) = false := by
        rw [beq_eq_false_iff_ne]
        exact fun h => hf (toList_one.1 h)
      have hno := Lib.hid (keep.out fun h => hf h.2)
      go_wp2_with fail
      refine (CX.out).mono ?_; rintro e5 w5 ⟨rfl, hq5⟩
      have aR5 := aR4.below hq5
      have hB5 := hB4.trans (hq5.mono (by omega))
      have HF := Lib.hid ((aR5.set0 (.string ByteArray.empty)).set1 (.slice none 0 0))
      have HB6 := Lib.hid ((hB5.setCell (p := ⟨w.heap.size, 0, none⟩) (Nat.le_refl _) (.string ByteArray.empty)).setCell (p := ⟨w.heap.size, 1, none⟩) (Nat.le_refl _) (.slice none 0 0))
      clear o0 o1 o2 o3 hf
      obtain ⟨r0, r1, r2, r3⟩ := id aR5
      go_wp2_with fail
      have z0 := HF.out.c0
      have z1 := HF.out.c1
      exact bodyPost_ret (v := .tuple #[.agg #[.string ByteArray.empty, .slice none 0 0], .bool false]) (by simp [results, Tryz.results22, go_sem, r0, r1]; rfl) rfl (Or.inr ⟨hno.out, _, rfl, Labs.nil _ _, HB6.out⟩)
end
end Go.Proofs.YteiilmnehdbdiaaGreatDoor
