/- Package label: what a text is cut into; Parse; labels handed on by an iterator, collected, sorted by the library; walked. -/
import Derived.Test.YteiilmnehdbdiaaGreatDoorLbG
import Derived.Test.YteiilmnehdbdiaaGreatDoorLabS
import Derived.Lib.Split
import Derived.Lib.IndexBytes
import Derived.Lib.SplitLaws
import Derived.Test.YteiilmnehdbdiaaGreatDoorLabC
import Derived.RangeFuncNested
import Derived.RangeFuncBound
import Derived.RangeFuncCalls
import Derived.RangeFuncLeaves
import Derived.RangeFuncBox
import Derived.Shelf.Abstract
import Derived.OwnWalkIn
import Derived.TacticsInMore
import Derived.LoopNIn
import Derived.LoopIn
import Derived.Maps.AppendAt
namespace Go.Proofs.YteiilmnehdbdiaaGreatDoor

section
section
open Go.RowKit

theorem idx_no : ∀ {l : List UInt8} {c : UInt8}, (∀ b ∈ l, b ≠ c) → Lib.indexByte l c = -1
  | [], _, _ => rfl
  | b :: l, c, h => by
    have h0 : b ≠ c := h b (List.mem_cons_self ..)
    have ih := idx_no (l := l) (c := c) fun x hx => h x (List.mem_cons_of_mem _ hx)
    unfold Lib.indexByte
    rw [if_neg (by simpa using h0), ih]; rfl
theorem idx_app : ∀ {a : List UInt8} (b : List UInt8) {c : UInt8}, (∀ x ∈ a, x ≠ c) → Lib.indexByte (a ++ c :: b) c = a.length
  | [], b, c, _ => by simp [Lib.indexByte]
  | x :: a, b, c, h => by
    have h0 : x ≠ c := h x (List.mem_cons_self ..)
    have ih := idx_app (a := a) b (c := c) fun y hy => h y (List.mem_cons_of_mem _ hy)
    rw [List.cons_append]
    unfold Lib.indexByte
    rw [if_neg (by simpa using h0), ih, if_neg (by simp), List.length_cons]
    omega
/-- A text cut at a sign: what is before, what is behind, whether the sign is there. -/
def cutS (s : ByteArray) (c : UInt8) : ByteArray × ByteArray × Bool :=
  if 0 ≤ Lib.indexByte s.data.toList c then (s.extract 0 (Lib.indexByte s.data.toList c).toNat, s.extract ((Lib.indexByte s.data.toList c).toNat + 1) s.size, true) else (s, ByteArray.empty, false)
theorem cutS_no {s : ByteArray} {c : UInt8} (h : ∀ b ∈ s.data.toList, b ≠ c) : cutS s c = (s, ByteArray.empty, false) := by
  unfold cutS; rw [idx_no h]; rfl
theorem cutS_app {s : ByteArray} {c : UInt8} {a b : List UInt8} (e : s.data.toList = a ++ c :: b) (h : ∀ x ∈ a, x ≠ c) : (cutS s c).1.data.toList = a ∧ (cutS s c).2.1.data.toList = b ∧ (cutS s c).2.2 = true := by
  have hs : s.size = a.length + 1 + b.length := by
    have := congrArg List.length e
    rw [Array.length_toList, List.length_append, List.length_cons] at this
    show s.data.size = _
    omega
  unfold cutS
  rw [e, idx_app b h, if_pos (by omega), Int.toNat_natCast]
  refine ⟨?_, ?_, rfl⟩
  · show (s.extract 0 a.length).data.toList = a
    rw [extract_pre, e]; simp
  · show (s.extract (a.length + 1) s.size).data.toList = b
    rw [ByteArray.data_extract, Array.toList_extract, e, List.extract_eq_take_drop]
    rw [hs]
    simp
theorem cutS_size (s : ByteArray) (c : UInt8) : (cutS s c).1.size ≤ s.size ∧ (cutS s c).2.1.size ≤ s.size := by
  unfold cutS
  split
  · refine ⟨?_, ?_⟩ <;> simp only [ByteArray.size_extract] <;> omega
  · exact ⟨Nat.le_refl _, Nat.zero_le _⟩
/-- A text cut at its commas: into nine pieces at most. -/
def pcs (s : ByteArray) : List ByteArray := Lib.splitB (oneS 44) 0 (min 9 (s.size + 1) - 1) s
theorem splitK_join : ∀ (ps : List (List UInt8)) (k : Nat), ps ≠ [] → ps.length ≤ k + 1 → (∀ p ∈ ps, ∀ b ∈ p, b ≠ 44) → Lib.splitK [44] 0 k (Lib.join ps [44]) = ps
  | [], _, h, _, _ => absurd rfl h
  | [p], k, _, _, hp => by
    rw [Lib.join_one]
    have h := hp p (List.mem_cons_self ..)
    cases k with
    | zero => rfl
    | succ k => unfold Lib.splitK; rw [Lib.index_one, idx_no h]; rfl
  | p :: q :: t, k, _, hk, hp => by
    have h := hp p (List.mem_cons_self ..)
    obtain ⟨k, rfl⟩ : ∃ j, k = j + 1 := ⟨k - 1, by simp at hk; omega⟩
    have ih := splitK_join (q :: t) k (by simp) (by simp at hk ⊢; omega) fun r hr => hp r (List.mem_cons_of_mem _ hr)
    have e : Lib.join (p :: q :: t) [44] = p ++ 44 :: Lib.join (q :: t) [44] := by
      rw [Lib.join_cons, Lib.join_cons]; simp [Lib.joinTail]
    rw [e]
    unfold Lib.splitK
    rw [Lib.index_one, idx_app _ h, if_neg (by simp), Int.toNat_natCast]
    simp [ih]
theorem pcs_join {x : List Lab} {s : ByteArray} (hx : x ≠ []) (hs : s.data.toList = Lib.join ((x.map nv).map (·.data.toList)) [44]) (hp : ∀ l ∈ x, ∀ b ∈ (nv l).data.toList, b ≠ 44) (h8 : x.length ≤ 9) (hz : x.length ≤ s.size + 1) : pcs s = x.map nv := by
  have h1 : (pcs s).map (·.data.toList) = (x.map nv).map (·.data.toList) := by
    unfold pcs
    rw [Lib.splitB_data, hs, show (oneS 44).data.toList = [44] from rfl]
    refine splitK_join _ _ (by simpa using hx) (by simp; omega) fun p hpm b hb => ?_
    simp only [List.mem_map] at hpm
    obtain ⟨q, ⟨l, hl, rfl⟩, rfl⟩ := hpm
    exact hp l hl b hb
  have inj : ∀ a b : List ByteArray, a.map (·.data.toList) = b.map (·.data.toList) → a = b := fun a => by
    induction a with
    | nil => intro b h; cases b with
      | nil => rfl
      | cons _ _ => cases h
    | cons y a ih => intro b h; cases b with
      | nil => cases h
      | cons z b => simp only [List.map_cons, List.cons.injEq] at h; rw [data_one h.1, ih b h.2]
  exact inj _ _ h1

/-! a text of a right series is cut into what it was made of -/
def trimS (s : ByteArray) : ByteArray := ⟨(Lib.trimSuffix s.data.toList (oneS 125).data.toList).toArray⟩
def labP (p : ByteArray) : Lab := ((cutS p 61).1, (cutS p 61).2.1)
def parsA (t : ByteArray) : List Lab := if (cutS t 123).2.2 = true then (pcs (trimS (cutS t 123).2.1)).map labP else []
theorem nv_bytes (l : Lab) : (nv l).data.toList = l.1.data.toList ++ 61 :: l.2.data.toList := by
  simp only [nv, app_data, oneS]; simp
theorem labP_nv {l : Lab} (h : IsName l.1) : labP (nv l) = l := by
  obtain ⟨h1, h2, -⟩ := cutS_app (nv_bytes l) fun c hc => (name_plain h c hc).1
  unfold labP
  rw [data_one h1, data_one h2]
theorem bodyP_ge : ∀ x : List Lab, x.length ≤ (bodyP (x.map labB)).length
  | [] => Nat.zero_le _
  | [l] => by simp [bodyP, labB]; omega
  | l :: m :: t => by
    have ih := bodyP_ge (m :: t)
    simp only [List.map_cons] at ih ⊢
    rw [bodyP]
    simp at ih ⊢
    omega
theorem trim_last (j : List UInt8) : Lib.trimSuffix (j ++ [125]) [125] = j := by
  unfold Lib.trimSuffix Lib.hasSuffix
  rw [if_pos (by rw [List.isSuffixOf_iff_suffix]; exact List.suffix_append _ _)]
  simp
theorem pars_back {n t : ByteArray} {x : List Lab} (hr : IsRight n x) (h : fullS n x = t) : (cutS t 123).1 = n ∧ parsA t = x := by
  have ht := full_bytes n x
  rw [h] at ht
  have hn : ∀ c ∈ n.data.toList, c ≠ 123 := fun c hc => (name_plain hr.1 c hc).2.2.2
  by_cases h0 : x = []
  · rw [if_pos h0, List.append_nil] at ht
    have e := data_one ht
    subst e
    unfold parsA
    rw [cutS_no hn]
    exact ⟨rfl, by rw [h0]; rfl⟩
  · rw [if_neg h0] at ht
    obtain ⟨h1, h2, h3⟩ := cutS_app ht hn
    refine ⟨data_one h1, ?_⟩
    unfold parsA
    rw [if_pos h3]
    have hj := join_body x h0
    have hT : (trimS (cutS t 123).2.1).data.toList = Lib.join ((x.map nv).map (·.data.toList)) [44] := by
      unfold trimS
      rw [h2, ← hj]
      show (Lib.trimSuffix _ [125]) = _
      exact trim_last _
    have hlen : x.length ≤ (trimS (cutS t 123).2.1).size + 1 := by
      have h4 := bodyP_ge x
      rw [← hj, List.length_append, ← hT] at h4
      exact h4
    rw [pcs_join h0 hT ?_ (by have := hr.2.1; omega) hlen, List.map_map]
    · conv => rhs; rw [← List.map_id x]
      exact List.map_congr_left fun l hl => labP_nv (hr.2.2.1 l hl).1
    · intro l hl b hb
      rw [nv_bytes] at hb
      rcases List.mem_append.1 hb with hb | hb
      · exact (name_plain (hr.2.2.1 l hl).1 b hb).2.1
      · rcases List.mem_cons.1 hb with rfl | hb
        · decide
        · exact (val_plain (hr.2.2.1 l hl).2 b hb).2.1
/-! how much is read -/
theorem splitB_size (sep : ByteArray) : ∀ (k : Nat) (s : ByteArray), ∀ p ∈ Lib.splitB sep 0 k s, p.size ≤ s.size
  | 0, s, p, h => by rw [Lib.splitB_zero, List.mem_singleton] at h; rw [h]; exact Nat.le_refl _
  | k + 1, s, p, h => by
    unfold Lib.splitB at h
    split at h
    · rw [List.mem_singleton] at h; rw [h]; exact Nat.le_refl _
    · rcases List.mem_cons.1 h with rfl | h
      · rw [ByteArray.size_extract]; omega
      · have := splitB_size sep k _ p h
        rw [ByteArray.size_extract] at this
        omega
theorem pcs_len (s : ByteArray) : (pcs s).length ≤ 9 := by
  have := Lib.splitB_length_le (oneS 44) 0 (min 9 (s.size + 1) - 1) s
  unfold pcs; omega
theorem trimS_size (s : ByteArray) : (trimS s).size ≤ s.size := by
  show (List.toArray _).size ≤ s.data.size
  rw [List.size_toArray, ← Array.length_toList]
  unfold Lib.trimSuffix
  split
  · rw [List.length_take]; omega
  · exact Nat.le_refl _
end

section
open Go.RowKit

theorem idx_cases (l : List UInt8) (c : UInt8) : Lib.indexByte l c = -1 ∨ ∃ i : Nat, Lib.indexByte l c = i ∧ i < l.length := by
  have hge := Lib.indexByte_ge l c
  by_cases h : Lib.indexByte l c = -1
  · exact Or.inl h
  · obtain ⟨i, hi⟩ := Int.eq_ofNat_of_zero_le (show 0 ≤ Lib.indexByte l c by omega)
    refine Or.inr ⟨i, hi, ?_⟩
    have := (Lib.indexByte_some hi).1
    exact (List.getElem?_eq_some_iff.1 this).1
theorem cutS_miss {s : ByteArray} {c : UInt8} (h : Lib.indexByte s.data.toList c = -1) : cutS s c = (s, ByteArray.empty, false) := by
  unfold cutS; rw [h]; rfl
theorem cutS_hit {s : ByteArray} {c : UInt8} {i : Nat} (h : Lib.indexByte s.data.toList c = i) : cutS s c = (s.extract 0 i, s.extract (i + 1) s.size, true) := by
  unfold cutS; rw [h, if_pos (by omega), Int.toNat_natCast]

set_option maxRecDepth 100000 in
set_option maxHeartbeats 1000000 in
theorem litecut8_any (s : ByteArray) (c : UInt8) (w : World) (hs : s.size ≤ 1000000) : Calls Tryz.prog 68 #[.string s, .string (oneS c)] w fun e w' => e = .returned (.tuple #[.string (cutS s c).1, .string (cutS s c).2.1, .bool (cutS s c).2.2]) ∧ ∃ d, w.drewN d = w' := by
  have CI := Lib.hid fun W => Tryz.stringslite_Index_one s c W
  have hone : (oneS c).size = 1 := rfl
  rcases idx_cases s.data.toList c with h | ⟨i, h, hi⟩
  · rw [h] at CI
    have hE := Lib.hid (cutS_miss h)
    clear h
    go_enter Tryz.func68, Tryz.ntmps68
    go_wp2_with fail
    refine (CI.out _).mono ?_; rintro e w1 ⟨rfl, rfl⟩
    go_wp2_with fail
    go_ret3
    exact ⟨by rw [hE.out]; rfl, 0, rfl⟩
  · rw [h] at CI
    have hE := Lib.hid (cutS_hit h)
    have hi : i < s.size := by rw [Array.length_toList] at hi; exact hi
    have c1 : (0 : Int) ≤ (i : Int) := by omega
    have c2 : (i : Int) ≤ (s.size : Int) := by omega
    have c3 : (0 : Int) ≤ (i : Int) + 1 := by omega
    have c4 : (i : Int) + 1 ≤ (s.size : Int) := by omega
    clear h
    go_enter Tryz.func68, Tryz.ntmps68
    go_wp2_with fail
    refine (CI.out _).mono ?_; rintro e w1 ⟨rfl, rfl⟩
    go_wp2_with fail
    go_quiet (fail)
    go_wp2_with fail
    go_ret3
    exact ⟨by rw [hE.out]; rfl, _, rfl⟩
set_option maxRecDepth 100000 in
set_option maxHeartbeats 1000000 in
theorem cut8_any (s : ByteArray) (c : UInt8) (w : World) (hs : s.size ≤ 1000000) : Calls Tryz.prog 47 #[.string s, .string (oneS c)] w fun e w' => e = .returned (.tuple #[.string (cutS s c).1, .string (cutS s c).2.1, .bool (cutS s c).2.2]) ∧ ∃ d, w.drewN d = w' := by
  have CI := Lib.hid fun W => litecut8_any s c W hs
  generalize cutS s c = q at *
  obtain ⟨q0, q1, q2⟩ := q
  go_enter Tryz.func47, Tryz.ntmps47
  go_wp2_with fail
  refine (CI.out _).mono ?_; rintro e w1 ⟨rfl, hd⟩
  go_wp2_with fail
  go_ret3
  exact ⟨rfl, hd⟩

theorem split_gen (s : ByteArray) (w : World) (hs : s.size ≤ 1000000) : Calls Tryz.prog 81 #[.string s, .string (oneS 44), .int .i64 0, .int .i64 9] w fun e w' =>
    e = .returned (.slice (some ⟨w.heap.size, 0, none⟩) (pcs s).length (min 9 (s.size + 1))) ∧ w' = w.alloc (.cells (Lib.cellsOf (pcs s) (min 9 (s.size + 1))) 9) := by
  have hI : ∀ (x : ByteArray) (c : Array Value), x.size ≤ s.size → Calls Tryz.prog 104 #[.string x, .string (oneS 44)] (w.alloc (.cells c 9)) fun e w' => e = .returned (.int .i64 (Lib.indexB x (oneS 44))) ∧ w' = w.alloc (.cells c 9) := fun x c _ => by
    have := Tryz.strings_Index_one x 44 (w.alloc (.cells c 9))
    rw [← Lib.index_one] at this
    exact this
  have hC : Calls Tryz.prog 103 #[.string s, .string (oneS 44)] w fun e w' => e = .returned (.int .i64 (Lib.countB s (oneS 44))) ∧ w' = w := by
    have := Tryz.strings_Count_one s 44 w
    rw [show Lib.countByte s.data.toList 44 = Lib.countB s (oneS 44) from (Lib.count_one 44 _).symm] at this
    exact this
  exact Any.strings_genSplit_core Tryz.lays221 (by kernel_rfl) s (oneS 44) 0 9 (min 9 (s.size + 1)) w (by omega) (by decide) (by decide) hI hC (by decide) (by decide) (by rw [if_neg (by decide)]; omega)

set_option maxRecDepth 100000 in
set_option maxHeartbeats 1000000 in
theorem splitN8_any (s : ByteArray) (w : World) (hs : s.size ≤ 1000000) : Calls Tryz.prog 69 #[.string s, .string (oneS 44), .int .i64 9] w fun e w' =>
    e = .returned (.slice (some ⟨w.heap.size, 0, none⟩) (pcs s).length (min 9 (s.size + 1))) ∧ w' = w.alloc (.cells (Lib.cellsOf (pcs s) (min 9 (s.size + 1))) 9) := by
  have CI := Lib.hid fun W => split_gen s W hs
  generalize pcs s = ps at *
  go_enter Tryz.func69, Tryz.ntmps69
  go_wp2_with fail
  refine (CI.out _).mono ?_; rintro e w1 ⟨rfl, rfl⟩
  go_wp2_with fail
  go_ret
  exact ⟨rfl, rfl⟩
end

section
open Go.RowKit

set_option maxRecDepth 100000 in
set_option maxHeartbeats 2000000 in
theorem split8_any (s : ByteArray) (w : World) (hs : s.size ≤ 1000000) : Calls Tryz.prog 48 #[.string s] w fun e w' =>
    ∃ v, e = .returned v ∧ OwnB 45 w' w.heap.size v ((pcs s).map labP) ∧ Below w.heap.size w w' := by
  obtain ⟨i0, hi, hz0, hz1, hz2⟩ := info_parts labelW_info
  have CS := Lib.hid (splitN8_any s w hs)
  have hN : (pcs s).length ≤ min 9 (s.size + 1) := by
    have := Lib.splitB_length_le (oneS 44) 0 (min 9 (s.size + 1) - 1) s
    unfold pcs; omega
  have hZ : Hid (∀ p ∈ pcs s, p.size ≤ 1000000) := Lib.hid fun p hp => Nat.le_trans (splitB_size _ _ _ p hp) hs
  have hB0 := grew1 w (.cells (Lib.cellsOf (pcs s) (min 9 (s.size + 1))) 9)
  have hsz0 := World.size_alloc w (.cells (Lib.cellsOf (pcs s) (min 9 (s.size + 1))) 9)
  have HC : Hid (∀ j (h : j < (pcs s).length), (w.alloc (.cells (Lib.cellsOf (pcs s) (min 9 (s.size + 1))) 9)).cell? ⟨w.heap.size, j, none⟩ = some (.string (pcs s)[j])) := Lib.hid fun j h => by
    rw [World.cell?_alloc_new]
    unfold Lib.cellsOf
    rw [List.getElem?_toArray, List.getElem?_append_left (by simpa using h)]
    simp [h]
  have h9 := pcs_len s
  clear hs
  generalize min 9 (s.size + 1) = N at *
  generalize pcs s = ps at *
  go_enter Tryz.func48, Tryz.ntmps48
  go_wp2_with fail
  refine (CS.out).mono ?_; rintro e w1 ⟨rfl, rfl⟩
  generalize w.alloc (.cells (Lib.cellsOf ps N) 9) = W at *
  go_wp2_with fail
  go_loopw [3, 12] (fun o i wr => ∃ k : Nat, k ≤ ps.length ∧ i = .int .i64 k ∧ OwnB 45 wr W.heap.size o ((ps.take k).map labP) ∧ Below W.heap.size W wr) (fun _ i _ => ps.length - (intOf i).toNat)
  case atStart => exact ⟨0, Nat.zero_le _, rfl, OwnB.nil_ _ _ _, Below.refl _ _⟩
  case round =>
    obtain ⟨k, hk, rfl, hown, hB⟩ := hrel
    by_cases hlt : k < ps.length
    · have x0 : wr.cell? ⟨w.heap.size, k, none⟩ = some (.string ps[k]) := (hB.cell (by dsimp only; omega)).trans (HC.out k hlt)
      have j0 : (0 : Int) ≤ (k : Int) := by omega
      have j1 : (k : Int) < (ps.length : Int) := by omega
      have CC := Lib.hid fun W' => cut8_any ps[k] 61 W' (hZ.out _ (List.getElem_mem hlt))
      have HS : Hid ((ps.take (k + 1)).map labP = (ps.take k).map labP ++ [((cutS ps[k] 61).1, (cutS ps[k] 61).2.1)]) := Lib.hid (by rw [List.take_succ_eq_append_getElem hlt, List.map_append]; rfl)
      have hlen : ((ps.take k).map labP).length = k := by rw [List.length_map, List.length_take]; omega
      generalize (ps.take k).map labP = acc at *
      generalize cutS ps[k] 61 = q at *
      obtain ⟨q0, q1, q2⟩ := q
      generalize ps[k] = p at *
      go_wp2_with fail
      refine (CC.out _).mono ?_; rintro e w2 ⟨rfl, d, rfl⟩
      have hown2 := hown.drewN d
      have hB2 := below_drewN hB d
      have hsz2 : W.heap.size ≤ (wr.drewN d).heap.size := hB2.size
      clear x0
      generalize wr.drewN d = V at *
      go_wp2_with (at_builtin; go_must (refine wpList_append_cells _ rfl (.tmp 22) (.tmp 26) 22 rfl W.heap.size 45 i0 (.agg #[.string ByteArray.empty, .string ByteArray.empty]) 2 32 Tryz.underlying22 hi hz0 hz1 hz2 rfl (by decide) _ acc.length (cellsB acc) rfl (World.ownsRow.alloc hown2 _) _ 1 1 [.string q0, .string q1] rfl rfl (lab_src _ _ _ _ _ (Lib.hid rfl)) (two_strs _ _) (by unfold maxLen; omega) (by omega) (Nat.le_trans hsz2 (by simp)) ?_); intro v5 w5 hown5 hgrow5)
      obtain ⟨hown6, hq⟩ := hown2.grew hsz2 hown5 hgrow5
      rw [← HS.out] at hown6
      go_roundw
      case rel => exact ⟨k + 1, hlt, by go_num, hown6, hB2.trans hq⟩
      case measure => simp [intOf]; omega
    · obtain rfl : k = ps.length := by omega
      have j1 : ¬ (ps.length : Int) < (ps.length : Int) := by omega
      rw [List.take_length] at hown
      go_wp2_with fail
      go_ret
      exact ⟨_, rfl, hown.less (by omega), hB0.trans (hB.mono (by omega))⟩
end

section
open Go.RowKit

theorem trim8_any (s : ByteArray) (w : World) (hs : s.size ≤ 1000000) : Calls Tryz.prog 49 #[.string s, .string (oneS 125)] w fun e w' => e = .returned (.string (trimS s)) ∧ w' = w :=
  Tryz.strings_TrimSuffix s (oneS 125) w (by omega)
theorem parsA_sizes (t : ByteArray) : (parsA t).length ≤ 9 ∧ ∀ l ∈ parsA t, l.1.size ≤ t.size ∧ l.2.size ≤ t.size := by
  unfold parsA
  split
  · refine ⟨by rw [List.length_map]; exact pcs_len _, fun l hl => ?_⟩
    obtain ⟨p, hp, rfl⟩ := List.mem_map.1 hl
    have h1 := splitB_size _ _ _ p hp
    have h2 := trimS_size (cutS t 123).2.1
    have h3 := (cutS_size t 123).2
    have h4 := cutS_size p 61
    exact ⟨by show (cutS p 61).1.size ≤ _; omega, by show (cutS p 61).2.1.size ≤ _; omega⟩
  · exact ⟨Nat.zero_le _, fun l h => absurd h (by simp)⟩

set_option maxRecDepth 100000 in
set_option maxHeartbeats 4000000 in
theorem parse8_any (t : ByteArray) (w : World) (ht : t.size ≤ 100000) : Calls Tryz.prog 22 #[.string t] w (ParE w t) := by
  have aR := At2.new w (.string (ByteArray.mk #[])) (.slice none 0 0) 24
  have hB0 := grew1 w (.cells #[.string (ByteArray.mk #[]), .slice none 0 0] 24)
  have hWs := World.size_alloc w (.cells #[.string (ByteArray.mk #[]), .slice none 0 0] 24)
  have CC := Lib.hid fun W => cut8_any t 123 W (by omega)
  have HNO : Hid (¬ (IsRight (cutS t 123).1 (parsA t) ∧ fullS (cutS t 123).1 (parsA t) = t) → ∀ n x, IsRight n x → fullS n x ≠ t) := Lib.hid fun h n x hr e => h (by
    obtain ⟨h1, h2⟩ := pars_back hr e
    rw [h1, h2]; exact ⟨hr, e⟩)
  obtain ⟨hx9, hxz⟩ := parsA_sizes t
  have HXZ : Hid (∀ l ∈ parsA t, l.1.size ≤ 1000000 ∧ l.2.size ≤ 1000000) := Lib.hid fun l hl => by have := hxz l hl; omega
  obtain ⟨hc1, hc2⟩ := cutS_size t 123
  have HXY : Hid ((cutS t 123).2.2 = true → ((pcs (trimS (cutS t 123).2.1)).map labP = parsA t)) := Lib.hid fun h => by unfold parsA; rw [if_pos h]
  have HXN : Hid ((cutS t 123).2.2 = false → [] = parsA t) := Lib.hid fun h => by unfold parsA; rw [if_neg (by rw [h]; decide)]
  have hts := trimS_size (cutS t 123).2.1
  have CT := Lib.hid fun W => trim8_any (cutS t 123).2.1 W (by omega)
  have CP := Lib.hid fun W => split8_any (trimS (cutS t 123).2.1) W (by omega)
  generalize (pcs (trimS (cutS t 123).2.1)).map labP = px at *
  generalize trimS (cutS t 123).2.1 = tr at *
  generalize parsA t = x at *
  generalize cutS t 123 = q at *
  obtain ⟨nm, rest, lab⟩ := q
  dsimp only at *
  clear hxz hc2 hts
  cases lab with
  | false =>
    have hx0 := HXN.out rfl
    subst hx0
    clear HXY HXN CT CP
    go_enter Tryz.func22, Tryz.ntmps22
    go_wp2_with fail
    refine (CC.out _).mono ?_; rintro e w1 ⟨rfl, d, rfl⟩
    have aR1 := aR.drewN d
    have hB1 := below_drewN hB0 d
    have hWs1 : ((w.alloc (.cells #[.string (ByteArray.mk #[]), .slice none 0 0] 24)).drewN d).heap.size = w.heap.size + 1 := hWs
    clear aR hB0 hWs
    generalize (w.alloc (.cells #[.string (ByteArray.mk #[]), .slice none 0 0] 24)).drewN d = V at *
    have aR2 := aR1.alloc (.cells #[.string nm, .slice none 0 0] 24)
    have aO2 := At2.new V (.string nm) (.slice none 0 0) 24
    rw [hWs1] at aO2
    have hB2 := ext_alloc hB1 (.cells #[.string nm, .slice none 0 0] 24)
    have hs2 : w.heap.size + 1 + 1 ≤ (V.alloc (.cells #[.string nm, .slice none 0 0] 24)).heap.size := by rw [World.size_alloc, hWs1]; exact Nat.le_refl _
    have hown : OwnB 45 (V.alloc (.cells #[.string nm, .slice none 0 0] 24)) (w.heap.size + 1 + 1) (.slice none 0 0) [] := OwnB.nil_ _ _ _
    clear aR1 hB1
    obtain ⟨o0, o1, o2, o3⟩ := id aO2
    go_upto_region 5 with fail
    clear o0 o1 o2 o3
    generalize V.alloc (.cells #[.string nm, .slice none 0 0] 24) = W at *
    have HN := Lib.hid hown.labs
    have CR := Lib.hid (right8_any nm _ _ W HN.out (by omega) (by omega) HXZ.out)
    obtain ⟨o0, o1, o2, o3⟩ := id aO2
    by_cases hr : IsRight nm ([] : List Lab)
    case neg =>
      have hno := Lib.hid (HNO.out fun h => hr h.1)
      rw [decide_eq_false hr] at CR
      clear hr HNO
      go_wp2_with fail
      refine (CR.out).mono ?_; rintro e4 w4 ⟨rfl, hq4⟩
      have aR4 := aR2.below hq4
      have hB4 := hB2.trans (hq4.mono (by omega))
      have HF := Lib.hid ((aR4.set0 (.string ByteArray.empty)).set1 (.slice none 0 0))
      have HB5 := Lib.hid ((hB4.setCell (p := ⟨w.heap.size, 0, none⟩) (Nat.le_refl _) (.string ByteArray.empty)).setCell (p := ⟨w.heap.size, 1, none⟩) (Nat.le_refl _) (.slice none 0 0))
      clear o0 o1 o2 o3
      obtain ⟨r0, r1, r2, r3⟩ := id aR4
      go_wp2_with fail
      have z0 := HF.out.c0
      have z1 := HF.out.c1
      exact bodyPost_ret (v := .tuple #[.agg #[.string ByteArray.empty, .slice none 0 0], .bool false]) (by simp [results, Tryz.results22, go_sem, r0, r1]; rfl) rfl (Or.inr ⟨hno.out, _, rfl, Labs.nil _ _, HB5.out⟩)
    have HR := Lib.hid hr
    rw [decide_eq_true hr] at CR
    have HTX : Hid (textS nm ([] : List Lab) = fullS nm ([] : List Lab)) := Lib.hid (by unfold textS; rw [if_pos hr])
    clear hr
    go_wp2_with fail
    refine (CR.out).mono ?_; rintro e4 w4 ⟨rfl, hq4⟩
    have aR4 := aR2.below hq4
    have aO4 := aO2.below hq4
    have hown4 := hown.below hq4
    have hB4 := hB2.trans (hq4.mono (by omega))
    have hs4 := Nat.le_trans hs2 hq4.size
    have HN4 := Lib.hid hown4.labs
    have CX := Lib.hid (text8_any nm _ _ w4 HN4.out (by omega) (by omega) HXZ.out)
    rw [HTX.out] at CX
    clear o0 o1 o2 o3 HTX CR
    generalize hfs : fullS nm ([] : List Lab) = fs at *
    have HFS := Lib.hid hfs
    clear hfs
    obtain ⟨o0, o1, o2, o3⟩ := id aO4
    have keep := HNO
    by_cases hf : fs = t
    · have e1 : (fs.toList == t.toList) = true := by rw [hf]; exact beq_self_eq_true _
      have hft := Lib.hid (HFS.out.trans hf)
      go_wp2_with fail
      refine (CX.out).mono ?_; rintro e5 w5 ⟨rfl, hq5⟩
      have aR5 := aR4.below hq5
      have aO5 := aO4.below hq5
      have hown5 := hown4.below hq5
      have hB5 := hB4.trans (hq5.mono (by omega))
      have HF := Lib.hid ((aR5.set0 (.string nm)).set1 (.slice none 0 0))
      have HGo := Lib.hid ((hown5.away (p := ⟨w.heap.size, 0, none⟩) (by dsimp only; omega) (.string nm)).away (p := ⟨w.heap.size, 1, none⟩) (by dsimp only; omega) (.slice none 0 0)).labs
      have HB6 := Lib.hid ((hB5.setCell (p := ⟨w.heap.size, 0, none⟩) (Nat.le_refl _) (.string nm)).setCell (p := ⟨w.heap.size, 1, none⟩) (Nat.le_refl _) (.slice none 0 0))
      clear o0 o1 o2 o3 hf
      obtain ⟨o0, o1, o2, o3⟩ := id aO5
      obtain ⟨r0, r1, r2, r3⟩ := id aR5
      go_wp2_with fail
      have z0 := HF.out.c0
      have z1 := HF.out.c1
      exact bodyPost_ret (v := .tuple #[.agg #[.string nm, (.slice none 0 0)], .bool true]) (by simp [results, Tryz.results22, go_sem, z0, z1]) rfl (Or.inl ⟨_, _, _, HR.out, hft.out, rfl, HGo.out, HB6.out⟩)
    · have e1 : (fs.toList == t.toList) = false := by
        rw [beq_eq_false_iff_ne]
        exact fun h => hf (toList_one.1 h)
      have hno := Lib.hid (keep.out fun h => hf h.2)
      go_wp2_with fail
      refine (CX.out).mono ?_; rintro e5 w5 ⟨rfl, hq5⟩
      have aR5 := aR4.below hq5
      have hB5 := hB4.trans (hq5.mono (by omega))
      have HF := Lib.hid ((aR5.set0 (.string ByteArray.empty)).set1 (.slice none 0 0))
      have HB6 := Lib.hid ((hB5.setCell (p := ⟨w.heap.size, 0, none⟩) (Nat.le_refl _) (.string ByteArray.empty)).setCell (p := ⟨w.heap.size, 1, none⟩) (Nat.le_refl _) (.slice none 0 0))
      clear o0 o1 o2 o3 hf
      obtain ⟨r0, r1, r2, r3⟩ := id aR5
      go_wp2_with fail
      have z0 := HF.out.c0
      have z1 := HF.out.c1
      exact bodyPost_ret (v := .tuple #[.agg #[.string ByteArray.empty, .slice none 0 0], .bool false]) (by simp [results, Tryz.results22, go_sem, r0, r1]; rfl) rfl (Or.inr ⟨hno.out, _, rfl, Labs.nil _ _, HB6.out⟩)
  | true =>
    have hx0 := HXY.out rfl
    subst hx0
    clear HXY HXN
    go_enter Tryz.func22, Tryz.ntmps22
    go_wp2_with fail
    refine (CC.out _).mono ?_; rintro e w1 ⟨rfl, d, rfl⟩
    have aR1 := aR.drewN d
    have hB1 := below_drewN hB0 d
    have hWs1 : ((w.alloc (.cells #[.string (ByteArray.mk #[]), .slice none 0 0] 24)).drewN d).heap.size = w.heap.size + 1 := hWs
    clear aR hB0 hWs
    generalize (w.alloc (.cells #[.string (ByteArray.mk #[]), .slice none 0 0] 24)).drewN d = V at *
    have aR2 := aR1.alloc (.cells #[.string nm, .slice none 0 0] 24)
    have aO2 := At2.new V (.string nm) (.slice none 0 0) 24
    rw [hWs1] at aO2
    have hB2 := ext_alloc hB1 (.cells #[.string nm, .slice none 0 0] 24)
    have hs2 : w.heap.size + 1 + 1 ≤ (V.alloc (.cells #[.string nm, .slice none 0 0] 24)).heap.size := by rw [World.size_alloc, hWs1]; exact Nat.le_refl _
    clear aR1 hB1
    obtain ⟨o0, o1, o2, o3⟩ := id aO2
    go_wp2_with fail
    generalize V.alloc (.cells #[.string nm, .slice none 0 0] 24) = W0 at *
    refine (CT.out _).mono ?_; rintro e w2 ⟨rfl, rfl⟩
    go_wp2_with fail
    refine (CP.out _).mono ?_; rintro e w3 ⟨u, rfl, hown, hq⟩
    obtain ⟨Ao, co, rfl⟩ := hown.val
    have aR3 := aR2.below hq
    have aO3 := aO2.below hq
    have hB3 := hB2.trans (hq.mono (by omega))
    have hs3 := Nat.le_trans hs2 hq.size
    have hown3 := hown.less hs2
    clear aR2 aO2 hB2 hs2 hown o0 o1 o2 o3 CT CP
    have aR2 := aR3.other (b' := w.heap.size + 1) (by omega) 1 (.slice Ao px.length co)
    have aO2 := aO3.set1 (.slice Ao px.length co)
    have hown := hown3.away (p := ⟨w.heap.size + 1, 1, none⟩) (by dsimp only; omega) (.slice Ao px.length co)
    have hB2 := hB3.setCell (p := ⟨w.heap.size + 1, 1, none⟩) (by dsimp only; omega) (.slice Ao px.length co)
    have hs2 : w.heap.size + 1 + 1 ≤ (w3.setCell ⟨w.heap.size + 1, 1, none⟩ (.slice Ao px.length co)).heap.size := by rw [World.size_setCell]; exact hs3
    obtain ⟨o0, o1, o2, o3⟩ := id aO3
    go_upto_region 5 with fail
    clear o0 o1 o2 o3 aO3 aR3 hown3 hB3
    generalize w3.setCell ⟨w.heap.size + 1, 1, none⟩ (.slice Ao px.length co) = W at *
    have HN := Lib.hid hown.labs
    have CR := Lib.hid (right8_any nm _ _ W HN.out (by omega) (by omega) HXZ.out)
    obtain ⟨o0, o1, o2, o3⟩ := id aO2
    by_cases hr : IsRight nm px
    case neg =>
      have hno := Lib.hid (HNO.out fun h => hr h.1)
      rw [decide_eq_false hr] at CR
      clear hr HNO
      go_wp2_with fail
      refine (CR.out).mono ?_; rintro e4 w4 ⟨rfl, hq4⟩
      have aR4 := aR2.below hq4
      have hB4 := hB2.trans (hq4.mono (by omega))
      have HF := Lib.hid ((aR4.set0 (.string ByteArray.empty)).set1 (.slice none 0 0))
      have HB5 := Lib.hid ((hB4.setCell (p := ⟨w.heap.size, 0, none⟩) (Nat.le_refl _) (.string ByteArray.empty)).setCell (p := ⟨w.heap.size, 1, none⟩) (Nat.le_refl _) (.slice none 0 0))
      clear o0 o1 o2 o3
      obtain ⟨r0, r1, r2, r3⟩ := id aR4
      go_wp2_with fail
      have z0 := HF.out.c0
      have z1 := HF.out.c1
      exact bodyPost_ret (v := .tuple #[.agg #[.string ByteArray.empty, .slice none 0 0], .bool false]) (by simp [results, Tryz.results22, go_sem, r0, r1]; rfl) rfl (Or.inr ⟨hno.out, _, rfl, Labs.nil _ _, HB5.out⟩)
    have HR := Lib.hid hr
    rw [decide_eq_true hr] at CR
    have HTX : Hid (textS nm px = fullS nm px) := Lib.hid (by unfold textS; rw [if_pos hr])
    clear hr
    go_wp2_with fail
    refine (CR.out).mono ?_; rintro e4 w4 ⟨rfl, hq4⟩
    have aR4 := aR2.below hq4
    have aO4 := aO2.below hq4
    have hown4 := hown.below hq4
    have hB4 := hB2.trans (hq4.mono (by omega))
    have hs4 := Nat.le_trans hs2 hq4.size
    have HN4 := Lib.hid hown4.labs
    have CX := Lib.hid (text8_any nm _ _ w4 HN4.out (by omega) (by omega) HXZ.out)
    rw [HTX.out] at CX
    clear o0 o1 o2 o3 HTX CR
    generalize hfs : fullS nm px = fs at *
    have HFS := Lib.hid hfs
    clear hfs
    obtain ⟨o0, o1, o2, o3⟩ := id aO4
    have keep := HNO
    by_cases hf : fs = t
    · have e1 : (fs.toList == t.toList) = true := by rw [hf]; exact beq_self_eq_true _
      have hft := Lib.hid (HFS.out.trans hf)
      go_wp2_with fail
      refine (CX.out).mono ?_; rintro e5 w5 ⟨rfl, hq5⟩
      have aR5 := aR4.below hq5
      have aO5 := aO4.below hq5
      have hown5 := hown4.below hq5
      have hB5 := hB4.trans (hq5.mono (by omega))
      have HF := Lib.hid ((aR5.set0 (.string nm)).set1 (.slice Ao px.length co))
      have HGo := Lib.hid ((hown5.away (p := ⟨w.heap.size, 0, none⟩) (by dsimp only; omega) (.string nm)).away (p := ⟨w.heap.size, 1, none⟩) (by dsimp only; omega) (.slice Ao px.length co)).labs
      have HB6 := Lib.hid ((hB5.setCell (p := ⟨w.heap.size, 0, none⟩) (Nat.le_refl _) (.string nm)).setCell (p := ⟨w.heap.size, 1, none⟩) (Nat.le_refl _) (.slice Ao px.length co))
      clear o0 o1 o2 o3 hf
      obtain ⟨o0, o1, o2, o3⟩ := id aO5
      obtain ⟨r0, r1, r2, r3⟩ := id aR5
      go_wp2_with fail
      have z0 := HF.out.c0
      have z1 := HF.out.c1
      exact bodyPost_ret (v := .tuple #[.agg #[.string nm, (.slice Ao px.length co)], .bool true]) (by simp [results, Tryz.results22, go_sem, z0, z1]) rfl (Or.inl ⟨_, _, _, HR.out, hft.out, rfl, HGo.out, HB6.out⟩)
    · have e1 : (fs.toList == t.toList) = false := by
        rw [beq_eq_false_iff_ne]
        exact fun h => hf (toList_one.1 h)
      have hno := Lib.hid (keep.out fun h => hf h.2)
      go_wp2_with fail
      refine (CX.out).mono ?_; rintro e5 w5 ⟨rfl, hq5⟩
      have aR5 := aR4.below hq5
      have hB5 := hB4.trans (hq5.mono (by omega))
      have HF := Lib.hid ((aR5.set0 (.string ByteArray.empty)).set1 (.slice none 0 0))
      have HB6 := Lib.hid ((hB5.setCell (p := ⟨w.heap.size, 0, none⟩) (Nat.le_refl _) (.string ByteArray.empty)).setCell (p := ⟨w.heap.size, 1, none⟩) (Nat.le_refl _) (.slice none 0 0))
      clear o0 o1 o2 o3 hf
      obtain ⟨r0, r1, r2, r3⟩ := id aR5
      go_wp2_with fail
      have z0 := HF.out.c0
      have z1 := HF.out.c1
      exact bodyPost_ret (v := .tuple #[.agg #[.string ByteArray.empty, .slice none 0 0], .bool false]) (by simp [results, Tryz.results22, go_sem, r0, r1]; rfl) rfl (Or.inr ⟨hno.out, _, rfl, Labs.nil _ _, HB6.out⟩)
end
end

section
section
section
open Go.RowKit Go.Shelf
attribute [local go_sem] Oper.semAt_some

def encL (l : Lab) : Array Value := #[.agg #[.string l.1, .string l.2]]

set_option maxRecDepth 100000 in
set_option maxHeartbeats 4000000 in
theorem vals1_in (n : Nat) (hn : 1 ≤ n) (l Bn n₀ : Nat) (v : Value) (xs : List Lab) (hlen : xs.length ≤ 1000000) (J Jx : List Lab → World → Prop) (hJa : ∀ pre W o, J pre W → n₀ ≤ W.heap.size → J pre (W.alloc o))
    (hY : ∀ pre x W, J pre W → pre.length < xs.length → YieldAt Fence.wide (n - 1) Tryz.prog l (encL x) W fun e W' =>
      (e = .returned (.bool true) ∧ J (pre ++ [x]) W' ∧ Below n₀ W W') ∨ (e = .returned (.bool false) ∧ Jx (pre ++ [x]) W'))
    (W : World) (hn₀ : n₀ ≤ W.heap.size) (hc : W.cell? ⟨Bn, 0, none⟩ = some v) (hL : Labs W n₀ v xs) (h0 : J [] W) :
    CallsIn Fence.wide n Tryz.prog 62 #[.func (.yield l) #[] #[], .pointer (some ⟨Bn, 0, none⟩)] W fun e W' => (∃ v, e = .returned v) ∧
      ((∃ ys, ys = xs ∧ J ys W') ∨ (∃ pre, pre <+: xs ∧ Jx pre W')) := by
  obtain ⟨A0, c0, rfl⟩ := hL.len
  have LX := Lib.hid hL
  have HJa := Lib.hid hJa
  clear hL hJa
  refine callsIn_of_wp Tryz.func62 rfl trivial ?_ rfl
  simp only [Tryz.ntmps62, List.size_toArray, List.length_cons, List.length_nil, Nat.reduceAdd, Nat.reduceSub, Array.replicate_succ, Array.replicate_zero, List.push_toArray, List.append_toArray, List.nil_append, List.cons_append]
  gi_wp2
  gi_loopw [7] (fun i wr => ∃ k : Nat, k ≤ xs.length ∧ i = .int .i64 k ∧ Below n₀ W wr ∧ J (xs.take k) wr) (fun i _ => xs.length - (intOf i).toNat)
  case atStart => exact ⟨0, Nat.zero_le _, rfl, Below.refl _ _, h0⟩
  case round =>
    obtain ⟨k, hk, rfl, hB, hJ⟩ := hrel
    have hnw : n₀ ≤ wr.heap.size := Nat.le_trans hn₀ hB.size
    by_cases hlt : k < xs.length
    · obtain ⟨ax, rfl, hbx, hcx⟩ := (LX.out.below hB).at_ (by omega)
      obtain ⟨x0, x1⟩ := hcx k hlt
      rw [add_next] at x1
      have j0 : (0 : Int) ≤ (k : Int) := by omega
      have j1 : (k : Int) < (xs.length : Int) := by omega
      have hJ2 := HJa.out _ _ (.cells #[.string xs[k].1, .string xs[k].2] 45) hJ hnw
      have hB2 := (hB.alloc hnw (.cells #[.string xs[k].1, .string xs[k].2] 45))
      have hpl : (xs.take k).length < xs.length := by rw [List.length_take]; omega
      have HT := Lib.hid (List.take_succ_eq_append_getElem hlt)
      obtain ⟨d0, d1, -, -⟩ := At2.new wr (.string xs[k].1) (.string xs[k].2) 45
      obtain ⟨fn, tmps, assign, body, hy, hR⟩ := hY _ xs[k] _ hJ2 hpl
      dsimp only [encL] at hy
      gi_wp2
      refine hR.mono ?_
      rintro e W3 (⟨rfl, hJ3, hk3⟩ | ⟨rfl, hJx3⟩)
      · rw [← HT.out] at hJ3
        have hB3 := hB2.trans hk3
        gi_wp2
        exact ⟨⟨k + 1, hlt, by go_num, hB3, hJ3⟩, by simp [intOf]; omega⟩
      · gi_wp2
        refine bodyPost_ret (results_none rfl _ _ _) rfl ?_
        exact ⟨⟨_, rfl⟩, .inr ⟨_, by rw [← HT.out]; exact List.take_prefix _ _, hJx3⟩⟩
    · obtain rfl : k = xs.length := by omega
      have j1 : ¬ (xs.length : Int) < (xs.length : Int) := by omega
      rw [List.take_length] at hJ
      gi_wp2
      go_end0
      exact ⟨⟨_, rfl⟩, .inl (by first | exact ⟨_, rfl, hJ⟩ | exact hJ)⟩

set_option maxRecDepth 100000 in
theorem values8_any (A : Option Addr) (n c : Nat) (w : World) : Calls Tryz.prog 36 #[.slice A n c] w fun e w' => e = .returned (.func (.func 62) #[] #[.pointer (some ⟨w.heap.size, 0, none⟩)]) ∧ w' = w.alloc (.cells #[.slice A n c] 22) := by
  go_enter Tryz.func36, Tryz.ntmps36
  go_wp2_with fail
  go_ret
  exact ⟨rfl, rfl⟩
theorem vals_stops (n : Nat) (hn : 1 ≤ n) (Bn n₀ : Nat) (v : Value) (xs : List Lab) (hlen : xs.length ≤ 1000000) (w : World) (hBn : Bn < n₀) (hn₀ : n₀ ≤ w.heap.size) (hc : w.cell? ⟨Bn, 0, none⟩ = some v) (hL : Labs w n₀ v xs) :
    SeqStopsK Fence.wide n Tryz.prog 62 #[.pointer (some ⟨Bn, 0, none⟩)] encL (Below n₀) (fun ys => ys = xs) (fun pre => pre <+: xs) xs.length w := fun l J Jx W hW hJ _ hY h0 =>
  vals1_in n hn l Bn n₀ v xs hlen J Jx (fun pre W1 o h _ => hJ pre W1 _ none h (World.grownBy_alloc W1 o none) (fun r e => by cases e)) hY W (Nat.le_trans hn₀ hW.size) ((hW.cell (p := ⟨Bn, 0, none⟩) (by dsimp only; omega)).trans hc) (hL.below (hW.mono hn₀)) h0
end
end

section
section
open Go.RowKit Go.Shelf
attribute [local go_sem] Oper.semAt_some

set_option maxRecDepth 100000 in
set_option maxHeartbeats 4000000 in
theorem appSeq8_any (Bn : Nat) (v : Value) (x : List Lab) (w : World) (hlen : x.length ≤ 1000000) (hBn : Bn < w.heap.size) (hc : w.cell? ⟨Bn, 0, none⟩ = some v) (hL : Labs w w.heap.size v x) :
    Calls Tryz.prog 75 #[.slice none 0 0, .func (.func 62) #[] #[.pointer (some ⟨Bn, 0, none⟩)]] w fun e w' =>
      ∃ u, e = .returned u ∧ OwnB 45 w' w.heap.size u x ∧ Below w.heap.size w w' := by
  obtain ⟨i0, hi, hz0, hz1, hz2⟩ := info_parts labelW_info
  have eg : ∀ args W, (callFunc 62 args).run Tryz.prog W = .ok (.enter 62 args) W := enters_of Tryz.func62 (by kernel_rfl) rfl
  have hB0 := grew1 w (.cells #[.slice none 0 0] 22)
  have bS := Boxed.new w 22 (.slice none 0 0)
  have hsz := World.size_alloc w (.cells #[.slice none 0 0] 22)
  have HSQ := Lib.hid (vals_stops 7 (by omega) Bn w.heap.size v x hlen (w.alloc (.cells #[.slice none 0 0] 22)) hBn hB0.size ((hB0.cell (p := ⟨Bn, 0, none⟩) hBn).trans hc) (hL.below hB0))
  clear hL hc
  refine (callsIn_wide (n := 8)).1 ?_
  refine callsIn_of_wp_marks Tryz.func75 rfl trivial ?_ rfl
  simp only [Tryz.ntmps75, List.size_toArray, List.length_cons, List.length_nil, Nat.reduceAdd, Nat.reduceSub, Array.replicate_succ, Array.replicate_zero, List.push_toArray, List.append_toArray, List.nil_append, List.cons_append]
  refine wpIn_wide.2 ?_
  go_wp2_with fail
  generalize w.alloc (.cells #[.slice none 0 0] 22) = W0 at *
  refine (wpIn_wide (n := 8)).1 ?_
  refine wpIn_rangeFunc_ownH rfl (by decide) (gf := 62) (lb := #[.pointer (some ⟨Bn, 0, none⟩)]) rfl trivial eg HSQ.out belowK_t (belowK_b hB0.size) (Below.refl _ _) (fun _ => rfl)
    (fun pre W => (∃ v, Boxed W w.heap.size 22 v ∧ W.ownsRow w.heap.size 45 2 v pre.length (cellsB pre) ∧ True) ∧ Below w.heap.size w W)
    (fun _ _ _ => False)
    (OwnFrom.and (Own.from (holdsRow_own _ _ _ _ _ (fun pre : List Lab => pre.length) (fun pre : List Lab => cellsB pre) (fun _ _ => True)) _) (ownFrom_below (Nat.le_refl _) hB0.size))
    (fun _ _ _ _ _ hs _ _ => hs)
    ⟨⟨_, bS, OwnB.nil_ _ _ _, trivial⟩, hB0⟩
    (fun l a' W => ∃ Bx, w.heap.size < Bx ∧ W.heap[Bx]? = some (.cells #[.string l.1, .string l.2] 45 (0, 0)) ∧ a' = { tmps := #[.slice none 0 0, .func (.func 62) #[] #[.pointer (some ⟨Bn, 0, none⟩)], .pointer (some ⟨w.heap.size, 0, none⟩), undef, .slice none 0 0, .pointer (some ⟨Bx, 0, none⟩), .func (.func 62) #[] #[.pointer (some ⟨Bn, 0, none⟩)], .agg #[.string l.1, .string l.2], undef, undef, undef, undef, undef], defers := [] })
    (fun l a' _ X Y row hs hg hr => by
      obtain ⟨Bx, h1, h2, h3⟩ := hs
      exact ⟨Bx, h1, (hg.block Bx (Array.getElem?_eq_some_iff.1 h2).1 (fun e' => by obtain ⟨o, ho, hc⟩ := (hr Bx e'.symm).2; rw [h2] at ho; cases ho; cases hc)).trans h2, h3⟩)
    ?assign ?body ?done ?stop
  case assign =>
    rintro l pre y W K ⟨⟨v, bS1, hrow, -⟩, hB1⟩ hK
    unfold encL
    gi_wp2
    exact hK _ _ ((KeepsOthers.alloc _ _).from _) ((Below.refl _ W).alloc hB1.size _) ⟨⟨v, bS1.alloc _, hrow.alloc _, trivial⟩, hB1.alloc hB1.size _⟩ ⟨W.heap.size, bS1.lt, World.alloc_heap_new W _, rfl⟩
  case body =>
    rintro l pre y a' W hl ⟨r, hr⟩ ⟨⟨v, bS1, hrow, -⟩, hB1⟩ ⟨Bx, hBx, bX, rfl⟩ hlt
    have cB := bS1.cell
    have d0 : W.cell? ⟨Bx, 0, none⟩ = some (.string y.1) := by simp [World.cell?, bX]
    have d1 : W.cell? ⟨Bx, 1, none⟩ = some (.string y.2) := by simp [World.cell?, bX]
    gi_wp2_with (gi_at_builtin; refine wpListIn_append_own _ rfl (.tmp 8) (.tmp 10) 22 rfl w.heap.size 45 i0 (.agg #[.string ByteArray.empty, .string ByteArray.empty]) 2 32 Tryz.underlying22 hi hz0 hz1 hz2 rfl (by decide) v pre.length (cellsB pre) rfl (hrow.alloc _) ⟨W.heap.size, 0, none⟩ 1 1 [.string y.1, .string y.2] rfl rfl (two_cells _ _ _ _) (two_strs _ _) (by unfold maxLen; omega) (by omega) (by have := hB1.size; simp; omega) ?_; intro v' w1 hown' hgrow _; obtain ⟨g', cap', rfl⟩ := ownsRow_succ hown'; obtain ⟨hv1, hv2, hr2, hk2, hb2⟩ := bS1.appended (by decide) hrow hB1.size (Nat.le_refl _) hown' hgrow; have hc1 := hv1.cell; have hf1 := hv1.frozen)
    exact ⟨hk2.from _, hb2, ⟨_, hv2, by rw [List.length_append, ← cellsB_snoc]; exact hr2, trivial⟩, hB1.trans hb2⟩
  case done =>
    rintro D ys W hD rfl ⟨⟨v, bS1, hrow, -⟩, hB1⟩ hDf
    have cB := bS1.cell
    obtain ⟨Av, cv, rfl⟩ := (show OwnB 45 W w.heap.size v ys from hrow).val
    go_wp2_with fail
    refine ⟨by simp, .inl ⟨_, _, rfl, run_takeDeferred hDf, ?_⟩⟩
    exact ⟨.slice Av ys.length cv, (results_tmp (fn := Tryz.f75) (t := 4) rfl _ _ _).trans rfl, .slice Av ys.length cv, rfl, ownsRow_putObj hrow (.deferred none) hDf rfl, hB1.trans (belowK_b (w := w) (Nat.le_refl _) W D _ _ (by have := hB0.size; omega) hDf rfl rfl)⟩
  case stop =>
    rintro D c pre W _ _ h _
    exact h.elim
end
end

section
open Go.RowKit

set_option maxRecDepth 100000 in
theorem collect8_any (Bn : Nat) (v : Value) (x : List Lab) (w : World) (hlen : x.length ≤ 1000000) (hBn : Bn < w.heap.size) (hc : w.cell? ⟨Bn, 0, none⟩ = some v) (hL : Labs w w.heap.size v x) :
    Calls Tryz.prog 60 #[.func (.func 62) #[] #[.pointer (some ⟨Bn, 0, none⟩)]] w fun e w' =>
      ∃ u, e = .returned u ∧ OwnB 45 w' w.heap.size u x ∧ Below w.heap.size w w' := by
  have CA := Lib.hid (appSeq8_any Bn v x w hlen hBn hc hL)
  clear hc hL
  go_enter Tryz.func60, Tryz.ntmps60
  go_wp2_with fail
  refine (CA.out).mono ?_; rintro e w1 ⟨u, rfl, hO, hB⟩
  go_wp2_with fail
  go_ret
  exact ⟨u, rfl, hO, hB⟩

/-! the order -/
theorem ordL_cmp (a b : Lab) : cmpL [a] [b] = ordL a b := by
  rw [cmpL_ord]
  by_cases h : ordL a b = 0
  · rw [if_neg (by simpa using h), h]; rfl
  · rw [if_pos h]
theorem swoL : Sort.SWO (ltOf ordL) where
  irrefl p := by
    unfold ltOf
    rw [← ordL_cmp, cmpL_zero.2 rfl]; rfl
  trans p q r h1 h2 := by
    unfold ltOf at *
    rw [decide_eq_true_iff, ← ordL_cmp] at *
    have h3 := cmpL_trans (Int.le_of_lt h1) (Int.le_of_lt h2)
    rcases Int.lt_or_eq_of_le h3 with h | h
    · exact h
    · have e := cmpL_zero.1 h
      rw [← e, cmpL_neg [p] [q]] at h2
      omega
  ntrans p q r h1 h2 := by
    unfold ltOf at *
    rw [decide_eq_false_iff_not, ← ordL_cmp] at *
    have h3 := cmpL_neg [p] [q]
    have h4 := cmpL_neg [q] [r]
    have h5 := cmpL_neg [p] [r]
    have h6 := cmpL_trans (x := [r]) (y := [q]) (z := [p]) (by omega) (by omega)
    omega

/-! the sort -/
def encB8 (x : Lab) : List Value := [.string x.1, .string x.2]
theorem flatB_at (d : Array Lab) (j : Nat) (h : j < d.size * 2) : (Sort.flatK encB8 2 d)[j]! = if j % 2 = 0 then .string (d[j / 2]!).1 else .string (d[j / 2]!).2 := by
  rw [Sort.get_flatK _ _ _ _ h]
  unfold encB8
  rcases (show j % 2 = 0 ∨ j % 2 = 1 by omega) with e | e <;> rw [e] <;> rfl
theorem held_labs {t : TypeId} {w : World} {B g cap : Nat} {gs : List Lab} (h : OwnB t w B (.slice (some ⟨g, 0, none⟩) gs.length cap) gs) : Sort.HoldsK encB8 2 w g 0 gs.toArray := by
  intro j hj
  have hj' : j < gs.length * 2 := by simpa using hj
  have hs : gs.toArray.size = gs.length := by simp
  have e := flatB_at gs.toArray j (by rw [hs]; exact hj')
  have hi : j / 2 < gs.length := by omega
  obtain ⟨k1, k2⟩ := cellsB_at gs (j / 2) hi
  have g1 : gs.toArray[j / 2]! = gs[j / 2] := by rw [getElem!_pos _ _ (by rw [hs]; exact hi)]; simp
  rw [g1] at e
  refine ⟨?_, by rw [Nat.zero_add]; exact World.ownsRow.frozenAt h j⟩
  rw [Nat.zero_add, World.ownsRow.cellAt h j hj']
  rcases (show j % 2 = 0 ∨ j % 2 = 1 by omega) with e0 | e0
  · rw [if_pos e0] at e
    rw [show id (Sort.flatK encB8 2 gs.toArray)[j]! = _ from e]
    have k3 := k1
    rw [show j / 2 * 2 = j by omega] at k3
    exact k3
  · rw [if_neg (by omega)] at e
    rw [show id (Sort.flatK encB8 2 gs.toArray)[j]! = _ from e]
    have k3 := k2
    rw [show j / 2 * 2 + 1 = j by omega] at k3
    exact k3
theorem labs_held {w : World} {g cap : Nat} {d : Array Lab} (h : Sort.HoldsK encB8 2 w g 0 d) (hg : g < w.heap.size) (hc : d.size ≤ cap) : Labs w w.heap.size (.slice (some ⟨g, 0, none⟩) d.size cap) d.toList := by
  have ea : ∀ j, (Addr.mk g 0 none).add j = ⟨g, j, none⟩ := fun j => by unfold Addr.add; split <;> simp_all
  refine ⟨some ⟨g, 0, none⟩, cap, by simp, by simpa using hc, fun _ => ⟨_, rfl, hg, fun j hj => ?_⟩⟩
  have hj' : j < d.size := by simpa using hj
  have g1 : d[j]! = d.toList[j] := by rw [getElem!_pos d j hj']; simp
  rw [ea, ea]
  have h0 := (h (j * 2) (by simp; omega)).1
  have h1 := (h (j * 2 + 1) (by simp; omega)).1
  rw [Nat.zero_add] at h0 h1
  rw [h0, h1, show id (Sort.flatK encB8 2 d)[j * 2]! = _ from flatB_at d (j * 2) (by omega), show id (Sort.flatK encB8 2 d)[j * 2 + 1]! = _ from flatB_at d (j * 2 + 1) (by omega), if_pos (by omega), if_neg (by omega), show j * 2 / 2 = j by omega, show (j * 2 + 1) / 2 = j by omega, g1]
  exact ⟨rfl, rfl⟩
theorem below_sortL (w : World) (B g m : Nat) (d : Array Lab) (os : Array Obj) (hB : B ≤ g) (hB2 : B ≤ w.heap.size) : Below B w (sortWorldK encB8 2 w g 0 m d os) := by
  refine ⟨rfl, rfl, rfl, ?_, fun k hk => ?_⟩
  · exact size_sortWorldK_c encB8 2 w g 0 m d os
  · unfold sortWorldK
    show ((w.heap.modify g _) ++ os)[k]? = w.heap[k]?
    rw [Array.getElem?_append]
    by_cases hs : k < w.heap.size
    · rw [if_pos (by simpa using hs), Array.getElem?_modify, if_neg (by omega)]
    · omega
/-- Labels in the order of the library's sort. -/
def AscL (hs : List Lab) : Prop := ∀ i j (_ : i < j) (hj : j < hs.length), ¬ ordL hs[j] (hs[i]'(by omega)) < 0

/-! nothing to sort -/
set_option maxRecDepth 100000 in
theorem ins8_nil (f : Value) (w : World) : Calls Tryz.prog 86 #[.slice none 0 0, .int .i64 0, .int .i64 0, f] w fun e w' => e = .returned (.tuple #[]) ∧ w' = w := by
  go_enter Tryz.func86, Tryz.ntmps86
  go_wp2_with fail
  refine wp_loop_rounds 1 ?_
  rw [rounds_succ]
  go_wp2_with fail
  (try simp only [Exit.inBlock, Exit.then])
  go_end0
  exact ⟨rfl, rfl⟩
set_option maxRecDepth 100000 in
theorem pdq8_nil (f : Value) (l : Int) (w : World) : Calls Tryz.prog 76 #[.slice none 0 0, .int .i64 0, .int .i64 0, .int .i64 l, f] w fun e w' => e = .returned (.tuple #[]) ∧ w' = w := by
  have CI := Lib.hid (ins8_nil f w)
  go_enter Tryz.func76, Tryz.ntmps76
  go_wp2_with fail
  refine wp_loop_rounds 1 ?_
  rw [rounds_succ]
  go_wp2_with fail
  refine (CI.out).mono ?_; rintro e w1 ⟨rfl, rfl⟩
  go_wp2_with fail
  (try simp only [Exit.inBlock, Exit.then]); refine bodyPost_ret (results_none rfl _ _ _) rfl ?_
  exact ⟨rfl, rfl⟩
set_option maxRecDepth 100000 in
theorem sort8_nil (f : Value) (w : World) : Calls Tryz.prog 61 #[.slice none 0 0, f] w fun e w' => e = .returned (.tuple #[]) ∧ w' = w := by
  have CP := Lib.hid fun l => pdq8_nil f l w
  have CB := Lib.hid (Tryz.bits_Len 0 w (by omega) (by omega))
  go_enter Tryz.func61, Tryz.ntmps61
  go_wp2_with fail
  refine (CB.out).mono ?_; rintro e w1 ⟨rfl, rfl⟩
  go_wp2_with fail
  refine (CP.out _).mono ?_; rintro e w1 ⟨rfl, rfl⟩
  go_wp2_with fail
  go_end0
  exact ⟨rfl, rfl⟩
set_option maxRecDepth 100000 in
set_option maxHeartbeats 1000000 in
theorem sort8_any (u : Value) (gs : List Lab) (B : Nat) (w : World) (hO : OwnB 45 w B u gs) (hn : gs.length ≤ 12) (hB : B ≤ w.heap.size) :
    Calls Tryz.prog 61 #[u, .func (.func 37) #[] #[]] w fun e w' => e = .returned (.tuple #[]) ∧ ∃ hs, AscL hs ∧ hs.Perm gs ∧ Labs w' w'.heap.size u hs ∧ Below B w w' := by
  have eg : ∀ args w, (callFunc 37 args).run Tryz.prog w = .ok (.enter 37 args) w := enters_of Tryz.func37 (by kernel_rfl) rfl
  rcases id hO.2 with ⟨rfl, h0⟩ | ⟨g, cap, cur, rfl, hb, hh, hc, _⟩
  · have e : gs = [] := List.eq_nil_of_length_eq_zero h0
    subst e
    exact (sort8_nil _ w).mono fun _ _ h => ⟨h.1, [], fun i j _ hj => absurd hj (by simp), List.Perm.refl _, Labs.nil _ _, h.2 ▸ Below.refl _ _⟩
  · have hg : g < w.heap.size := (World.ownsRow.lt hO g rfl).2
    have hS := AnyQ.slices_SortFunc_small_sorted Tryz.sortLab 2 Tryz.isAgg45 Tryz.sizeOf45 encB8 (fun _ => rfl) (fun x v hv => by simp [encB8] at hv; rcases hv with rfl | rfl <;> rfl) ordL 37 #[] swoL g 0 cap gs.toArray w eg (fun m os dk _ x y => (lcompare8_any x.1 x.2 y.1 y.2 _).mono fun _ _ h => ⟨h.1, 0, h.2⟩) (held_labs hO) hg (by simpa using hn) (fun n W _ => (Tryz.bits_Len n W (by omega) (by omega)).mono fun _ _ h => ⟨⟨_, h.1⟩, h.2⟩)
    have hs : gs.toArray.size = gs.length := by simp
    rw [hs] at hS
    refine Calls.mono hS ?_
    rintro e w' ⟨rfl, d', m, os, hp, hst, rfl⟩
    have hd : d'.size = gs.length := by have := hp.1; simpa using this
    refine ⟨rfl, d'.toList, ?_, ?_, ?_, below_sortL w B g m d' os hb hB⟩
    · intro i j hij hj
      have hj' : j < d'.size := by simpa using hj
      have e1 := hst i j (Nat.zero_le _) hij (by omega)
      rw [getElem!_pos d' j hj', getElem!_pos d' i (by omega)] at e1
      unfold ltOf at e1
      rw [decide_eq_false_iff_not] at e1
      simpa using e1
    · have h3 := hp.2.2
      rw [show d'.extract 0 gs.length = d' by rw [← hd]; simp, show gs.toArray.extract 0 gs.length = gs.toArray by simp] at h3
      simpa using h3
    · have hH := holdsK_sortWorldK_c encB8 2 w g 0 gs.toArray d' m os (held_labs hO) hg (by simpa using hd)
      have h := labs_held (cap := cap) hH (Nat.lt_of_lt_of_le hg (size_sortWorldK_c encB8 2 w g 0 m d' os)) (by omega)
      rwa [hd] at h
end
end
end Go.Proofs.YteiilmnehdbdiaaGreatDoor
