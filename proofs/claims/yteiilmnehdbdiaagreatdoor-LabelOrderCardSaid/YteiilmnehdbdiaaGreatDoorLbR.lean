/- Package label: names, values, labels and series that are right, walked. -/
import Derived.Test.YteiilmnehdbdiaaGreatDoorLabA
import Derived.Test.YteiilmnehdbdiaaGreatDoorLbS
import Derived.Test.YteiilmnehdbdiaaGreatDoorLabM
import Derived.Test.YteiilmnehdbdiaaGreatDoorLabR
namespace Go.Proofs.YteiilmnehdbdiaaGreatDoor

section
open Go.RowKit

def letB (c : Int) : Bool := decide (97 ≤ c ∧ c ≤ 122)
def digB (c : Int) : Bool := decide (48 ≤ c ∧ c ≤ 57)
set_option maxRecDepth 100000 in
theorem letter8_any (c : Int) (w : World) : Calls Tryz.prog 57 #[.int .u8 c] w fun e w' => e = .returned (.bool (letB c)) ∧ w = w' := by
  by_cases h1 : 97 ≤ c
  · by_cases h2 : c ≤ 122
    · have hE : Hid (letB c = true) := Lib.hid (decide_eq_true ⟨h1, h2⟩)
      go_enter Tryz.func57, Tryz.ntmps57
      go_wp2_with fail
      go_ret
      exact ⟨by rw [hE.out]; rfl, rfl⟩
    · have hE : Hid (letB c = false) := Lib.hid (decide_eq_false fun h => h2 h.2)
      go_enter Tryz.func57, Tryz.ntmps57
      go_wp2_with fail
      go_ret
      exact ⟨by rw [hE.out]; rfl, rfl⟩
  · have hE : Hid (letB c = false) := Lib.hid (decide_eq_false fun h => h1 h.1)
    go_enter Tryz.func57, Tryz.ntmps57
    go_wp2_with fail
    go_ret
    exact ⟨by rw [hE.out]; rfl, rfl⟩
set_option maxRecDepth 100000 in
theorem digit8_any (c : Int) (w : World) : Calls Tryz.prog 58 #[.int .u8 c] w fun e w' => e = .returned (.bool (digB c)) ∧ w = w' := by
  by_cases h1 : 48 ≤ c
  · by_cases h2 : c ≤ 57
    · have hE : Hid (digB c = true) := Lib.hid (decide_eq_true ⟨h1, h2⟩)
      go_enter Tryz.func58, Tryz.ntmps58
      go_wp2_with fail
      go_ret
      exact ⟨by rw [hE.out]; rfl, rfl⟩
    · have hE : Hid (digB c = false) := Lib.hid (decide_eq_false fun h => h2 h.2)
      go_enter Tryz.func58, Tryz.ntmps58
      go_wp2_with fail
      go_ret
      exact ⟨by rw [hE.out]; rfl, rfl⟩
  · have hE : Hid (digB c = false) := Lib.hid (decide_eq_false fun h => h1 h.1)
    go_enter Tryz.func58, Tryz.ntmps58
    go_wp2_with fail
    go_ret
    exact ⟨by rw [hE.out]; rfl, rfl⟩
theorem nameOk_bits (k c : Nat) : nameOk k c = (letB c || (decide (0 < k) && (decide (c = 95) || digB c))) := by
  unfold nameOk letB digB
  simp only [show ((97 : Int) ≤ (c : Int)) ↔ 97 ≤ c by omega, show ((c : Int) ≤ 122) ↔ c ≤ 122 by omega, show ((48 : Int) ≤ (c : Int)) ↔ 48 ≤ c by omega, show ((c : Int) ≤ 57) ↔ c ≤ 57 by omega]

set_option maxRecDepth 100000 in
set_option maxHeartbeats 2000000 in
theorem name8_any (s : ByteArray) (w : World) (hs : s.size ≤ 1000000) : Calls Tryz.prog 33 #[.string s] w fun e w' => e = .returned (.bool (decide (IsName s))) ∧ w = w' := by
  have CL := Lib.hid letter8_any
  have CD := Lib.hid digit8_any
  by_cases h0 : s = ByteArray.empty
  · subst h0
    have hE : Hid (decide (IsName ByteArray.empty) = false) := Lib.hid (decide_eq_false fun h => absurd h.1 (by decide))
    go_enter Tryz.func33, Tryz.ntmps33
    go_wp2_with fail
    go_ret
    exact ⟨by rw [hE.out]; rfl, rfl⟩
  have hp : 0 < s.size := by
    rcases Nat.eq_zero_or_pos s.size with e | e
    · exact absurd (ByteArray.ext (Array.eq_empty_of_size_eq_zero e)) h0
    · exact e
  have he : s.toList.isEmpty = false := by
    rw [ByteArray.toList_eq, List.isEmpty_eq_false_iff]
    intro e
    have := congrArg List.length e
    rw [Array.length_toList] at this
    exact absurd this (by show s.size ≠ 0; omega)
  clear h0
  by_cases h9 : 64 < s.size
  · have hE : Hid (decide (IsName s) = false) := Lib.hid (decide_eq_false fun h => absurd h.2.1 (by omega))
    have h2 : (64 : Int) < (s.size : Int) := by omega
    go_enter Tryz.func33, Tryz.ntmps33
    go_wp2_with fail
    go_ret
    exact ⟨by rw [hE.out]; rfl, rfl⟩
  have h2 : ¬ (64 : Int) < (s.size : Int) := by omega
  have hp0 : (0 : Int) < (s.size : Int) := by omega
  by_cases hl : letB (s[0].toNat : Int) = true
  case neg =>
    have hE : Hid (decide (IsName s) = false) := Lib.hid (decide_eq_false fun h => hl (by have := h.2.2 0 hp; rw [nameOk_bits] at this; simpa using this))
    have hl0 : letB (s[0].toNat : Int) = false := by simpa using hl
    go_enter Tryz.func33, Tryz.ntmps33
    go_wp2_with fail
    refine (CL.out _ _).mono ?_; rintro e w1 ⟨rfl, rfl⟩
    go_wp2_with fail
    go_ret
    exact ⟨by rw [hE.out]; rfl, rfl⟩
  go_enter Tryz.func33, Tryz.ntmps33
  go_wp2_with fail
  refine (CL.out _ _).mono ?_; rintro e w1 ⟨rfl, rfl⟩
  have hl := Lib.hid hl
  go_wp2_with fail
  go_loop [19] (fun i => ∃ k : Nat, k ≤ s.size ∧ i = .int .i64 k ∧ Hid (∀ j (h : j < s.size), j < k → nameOk j s[j].toNat = true)) (fun i => s.size - (intOf i).toNat)
  case atStart => exact ⟨0, Nat.zero_le _, rfl, Lib.hid fun j _ h => absurd h (by omega)⟩
  case round =>
    obtain ⟨k, hk, rfl, hall⟩ := hrel
    by_cases hlt : k < s.size
    · have j0 : (0 : Int) ≤ (k : Int) := by omega
      have j1 : (k : Int) < (s.size : Int) := by omega
      have hcase : letB (s[k].toNat : Int) = true ∨ (letB (s[k].toNat : Int) = false ∧ digB (s[k].toNat : Int) = true) ∨ (letB (s[k].toNat : Int) = false ∧ digB (s[k].toNat : Int) = false ∧ (s[k].toNat : Int) = 95) ∨ (letB (s[k].toNat : Int) = false ∧ digB (s[k].toNat : Int) = false ∧ (s[k].toNat : Int) ≠ 95) := by
        cases letB (s[k].toNat : Int)
        · cases digB (s[k].toNat : Int)
          · by_cases e : (s[k].toNat : Int) = 95
            · exact Or.inr (Or.inr (Or.inl ⟨rfl, rfl, e⟩))
            · exact Or.inr (Or.inr (Or.inr ⟨rfl, rfl, e⟩))
          · exact Or.inr (Or.inl ⟨rfl, rfl⟩)
        · exact Or.inl rfl
      have hk0 : letB (s[k].toNat : Int) = false → 0 < k := fun h => by
        rcases Nat.eq_zero_or_pos k with e | e
        · subst e
          rw [hl.out] at h; cases h
        · exact e
      have hok : nameOk k s[k].toNat = true → Hid (∀ j (h : j < s.size), j < k + 1 → nameOk j s[j].toNat = true) := fun hh => Lib.hid fun j hj hjk => by
        by_cases e : j = k
        · subst e; exact hh
        · exact hall.out j hj (by omega)
      have hbad : nameOk k s[k].toNat = false → Hid (decide (IsName s) = false) := fun hh => Lib.hid (decide_eq_false fun h => by rw [h.2.2 k hlt] at hh; cases hh)
      rw [nameOk_bits] at hok hbad
      clear hall hl
      rcases hcase with e1 | ⟨e1, e2⟩ | ⟨e1, e2, e3⟩ | ⟨e1, e2, e3⟩
      · have hok2 := hok (by rw [e1]; rfl)
        clear hok hbad
        go_wp2_with fail
        refine (CL.out _ _).mono ?_; rintro e w1 ⟨rfl, rfl⟩
        go_wp2_with fail
        refine ⟨⟨k + 1, hlt, by go_num, hok2⟩, ?_⟩; simp [intOf]; omega
      · have hok2 := hok (by rw [e1, e2, decide_eq_true (hk0 e1)]; simp)
        clear hok hbad
        go_wp2_with fail
        refine (CL.out _ _).mono ?_; rintro e w1 ⟨rfl, rfl⟩
        go_wp2_with fail
        refine (CD.out _ _).mono ?_; rintro e w1 ⟨rfl, rfl⟩
        go_wp2_with fail
        refine ⟨⟨k + 1, hlt, by go_num, hok2⟩, ?_⟩; simp [intOf]; omega
      · have hok2 := hok (by rw [e1, e2, decide_eq_true (hk0 e1), decide_eq_true (show s[k].toNat = 95 by omega)]; rfl)
        clear hok hbad
        generalize hc : (s[k].toNat : Int) = c at *
        subst e3
        go_wp2_with fail
        refine (CL.out _ _).mono ?_; rintro e w1 ⟨rfl, rfl⟩
        go_wp2_with fail
        refine (CD.out _ _).mono ?_; rintro e w1 ⟨rfl, rfl⟩
        go_wp2_with fail
        refine ⟨⟨k + 1, hlt, by go_num, hok2⟩, ?_⟩; simp [intOf]; omega
      · have hE := hbad (by rw [e1, e2, decide_eq_false (show ¬ s[k].toNat = 95 by omega)]; simp)
        clear hok hbad
        have e4 : ((s[k].toNat : Int) == 95) = false := by simpa using e3
        go_wp2_with fail
        refine (CL.out _ _).mono ?_; rintro e w1 ⟨rfl, rfl⟩
        go_wp2_with fail
        refine (CD.out _ _).mono ?_; rintro e w1 ⟨rfl, rfl⟩
        go_wp2_with fail
        go_ret
        exact ⟨by rw [hE.out]; rfl, rfl⟩
    · obtain rfl : k = s.size := by omega
      have hE : Hid (decide (IsName s) = true) := Lib.hid (decide_eq_true ⟨by omega, by omega, fun i h => hall.out i h h⟩)
      clear hl
      go_wp2_with fail
      go_ret
      exact ⟨by rw [hE.out]; rfl, rfl⟩
end

section
open Go.RowKit

theorem anyOf_iff (cs : List UInt8) : ∀ l : List UInt8, Lib.containsAny l cs = true ↔ ∃ c ∈ l, c ∈ cs
  | [] => by simp [Lib.containsAny, Lib.indexAny]
  | b :: l => by
    have ih := anyOf_iff cs l
    have hg := Lib.indexAny_ge cs l
    unfold Lib.containsAny at ih ⊢
    rw [Lib.indexAny]
    rw [decide_eq_true_iff] at ih ⊢
    by_cases h : cs.contains b = true
    · rw [if_pos h]
      exact ⟨fun _ => ⟨b, List.mem_cons_self .., by simpa using h⟩, fun _ => by omega⟩
    · rw [if_neg h]
      have hb : b ∉ cs := by simpa using h
      by_cases e : Lib.indexAny l cs = -1
      · rw [if_pos (by simp [e])]
        refine ⟨fun k => absurd k (by omega), ?_⟩
        rintro ⟨c, hc, hcc⟩
        rcases List.mem_cons.1 hc with rfl | hc
        · exact absurd hcc hb
        · have := ih.2 ⟨c, hc, hcc⟩; omega
      · rw [if_neg (by simpa using e)]
        refine ⟨fun _ => ?_, fun _ => by omega⟩
        obtain ⟨c, hc, hcc⟩ := ih.1 (by omega)
        exact ⟨c, List.mem_cons_of_mem _ hc, hcc⟩
def signsS : ByteArray := ⟨#[44, 61, 123, 125]⟩
theorem val_signs {s : ByteArray} (h64 : s.size ≤ 64) (h : ∀ j (h : j < s.size), 33 ≤ s[j].toNat ∧ s[j].toNat ≤ 126) : Lib.containsAny s.data.toList signsS.data.toList = !(decide (IsVal s)) := by
  have hm : ∀ c, c ∈ s.data.toList ↔ ∃ j, ∃ h : j < s.size, s[j] = c := fun c => by
    rw [List.mem_iff_getElem]
    constructor
    · rintro ⟨i, hi, e⟩
      exact ⟨i, by simpa using hi, by rw [← e]; rfl⟩
    · rintro ⟨i, hi, e⟩
      exact ⟨i, by simpa using hi, by rw [← e]; rfl⟩
  by_cases hv : IsVal s
  · rw [decide_eq_true hv, Bool.not_true, ← Bool.not_eq_true, anyOf_iff]
    rintro ⟨c, hc, hcs⟩
    obtain ⟨j, hj, e⟩ := (hm c).1 hc
    have := hv.2 j hj
    rw [e] at this
    unfold valOk at this
    rw [decide_eq_true_iff] at this
    unfold signsS at hcs
    have hcs : c = 44 ∨ c = 61 ∨ c = 123 ∨ c = 125 := by simpa using hcs
    rcases hcs with rfl | rfl | rfl | rfl <;> simp at this
  · rw [decide_eq_false hv, Bool.not_false, anyOf_iff]
    have : ∃ j, ∃ h : j < s.size, valOk s[j].toNat = false := by
      refine Classical.byContradiction fun hn => hv ⟨h64, fun i hi => ?_⟩
      cases e : valOk s[i].toNat
      · exact absurd ⟨i, hi, e⟩ hn
      · rfl
    obtain ⟨j, hj, e⟩ := this
    refine ⟨s[j], (hm _).2 ⟨j, hj, rfl⟩, ?_⟩
    have h1 := h j hj
    unfold valOk at e
    rw [decide_eq_false_iff_not] at e
    have h2 : s[j].toNat = 44 ∨ s[j].toNat = 61 ∨ s[j].toNat = 123 ∨ s[j].toNat = 125 := by omega
    unfold signsS
    have hu : ∀ c : UInt8, c.toNat = s[j].toNat → s[j] = c := fun c hc => UInt8.toNat_inj.1 hc.symm
    rcases h2 with k | k | k | k
    · rw [hu 44 (by rw [k]; rfl)]; simp
    · rw [hu 61 (by rw [k]; rfl)]; simp
    · rw [hu 123 (by rw [k]; rfl)]; simp
    · rw [hu 125 (by rw [k]; rfl)]; simp

set_option maxRecDepth 100000 in
set_option maxHeartbeats 1000000 in
theorem value8_any (s : ByteArray) (w : World) (hs : s.size ≤ 1000000) : Calls Tryz.prog 74 #[.string s] w fun e w' => e = .returned (.bool (decide (IsVal s))) ∧ Below w.heap.size w w' := by
  by_cases h9 : 64 < s.size
  · have hE : Hid (decide (IsVal s) = false) := Lib.hid (decide_eq_false fun h => absurd h.1 (by omega))
    have h2 : (64 : Int) < (s.size : Int) := by omega
    go_enter Tryz.func74, Tryz.ntmps74
    go_wp2_with fail
    go_ret
    exact ⟨by rw [hE.out]; rfl, Below.refl _ _⟩
  have h2 : ¬ (64 : Int) < (s.size : Int) := by omega
  have CA : Hid ((∀ j (h : j < s.size), 33 ≤ s[j].toNat ∧ s[j].toNat ≤ 126) → Calls Tryz.prog 85 #[.string s, .string signsS] w fun e w' => e = .returned (.bool (!(decide (IsVal s)))) ∧ Below w.heap.size w w') := Lib.hid fun h => by
    have hm : ∀ (j : Nat) b, s.data.toList[j]? = some b → b.toNat < 128 := fun j b hb => by
      obtain ⟨hj, e⟩ := List.getElem?_eq_some_iff.1 hb
      have hj' : j < s.size := by simpa using hj
      have := (h j hj').2
      have e2 : s[j] = b := by rw [← e]; rfl
      rw [e2] at this; omega
    have := Tryz.strings_ContainsAny_laid s signsS w (by omega) (by decide) hm (fun j b hb => by
      obtain ⟨hj, e⟩ := List.getElem?_eq_some_iff.1 hb
      have hb2 : b ∈ signsS.data.toList := by rw [← e]; exact List.getElem_mem hj
      unfold signsS at hb2
      have hcs : b = 44 ∨ b = 61 ∨ b = 123 ∨ b = 125 := by simpa using hb2
      rcases hcs with rfl | rfl | rfl | rfl <;> decide)
    rw [val_signs (by omega) h] at this
    exact this
  go_enter Tryz.func74, Tryz.ntmps74
  go_wp2_with fail
  go_loop [9] (fun i => ∃ k : Nat, k ≤ s.size ∧ i = .int .i64 k ∧ Hid (∀ j (h : j < s.size), j < k → 33 ≤ s[j].toNat ∧ s[j].toNat ≤ 126)) (fun i => s.size - (intOf i).toNat)
  case atStart => exact ⟨0, Nat.zero_le _, rfl, Lib.hid fun j _ h => absurd h (by omega)⟩
  case round =>
    obtain ⟨k, hk, rfl, hall⟩ := hrel
    by_cases hlt : k < s.size
    · have j0 : (0 : Int) ≤ (k : Int) := by omega
      have j1 : (k : Int) < (s.size : Int) := by omega
      by_cases b1 : s[k].toNat < 33
      · have hE : Hid (decide (IsVal s) = false) := Lib.hid (decide_eq_false fun h => by have := h.2 k hlt; unfold valOk at this; rw [decide_eq_true_iff] at this; omega)
        have b2 : (s[k].toNat : Int) < 33 := by omega
        clear hall CA
        go_wp2_with fail
        go_ret
        exact ⟨by rw [hE.out]; rfl, Below.refl _ _⟩
      have b2 : ¬ (s[k].toNat : Int) < 33 := by omega
      by_cases b3 : 126 < s[k].toNat
      · have hE : Hid (decide (IsVal s) = false) := Lib.hid (decide_eq_false fun h => by have := h.2 k hlt; unfold valOk at this; rw [decide_eq_true_iff] at this; omega)
        have b4 : (126 : Int) < (s[k].toNat : Int) := by omega
        clear hall CA
        go_wp2_with fail
        go_ret
        exact ⟨by rw [hE.out]; rfl, Below.refl _ _⟩
      have b4 : ¬ (126 : Int) < (s[k].toNat : Int) := by omega
      have hall2 : Hid (∀ j (h : j < s.size), j < k + 1 → 33 ≤ s[j].toNat ∧ s[j].toNat ≤ 126) := Lib.hid fun j hj hjk => by
        by_cases e : j = k
        · subst e; omega
        · exact hall.out j hj (by omega)
      clear hall CA
      go_wp2_with fail
      refine ⟨⟨k + 1, hlt, by go_num, hall2⟩, ?_⟩; simp [intOf]; omega
    · obtain rfl : k = s.size := by omega
      have CB := Lib.hid (CA.out fun j h => hall.out j h h)
      clear CA hall
      obtain ⟨b, hE⟩ : ∃ b, Hid (decide (IsVal s) = b) := ⟨_, Lib.hid rfl⟩
      rw [hE.out] at CB
      go_wp2_with fail
      refine (CB.out).mono ?_; rintro e w1 ⟨rfl, hb⟩
      go_wp2_with fail
      go_ret
      exact ⟨by rw [hE.out]; rfl, hb⟩
end

section
open Go.RowKit

def okL (l : Lab) : Prop := IsName l.1 ∧ IsVal l.2
instance (l : Lab) : Decidable (okL l) := by unfold okL; infer_instance
set_option maxRecDepth 100000 in
set_option maxHeartbeats 1000000 in
theorem lright8_any (a b : ByteArray) (w : World) (ha : a.size ≤ 1000000) (hb : b.size ≤ 1000000) : Calls Tryz.prog 59 #[.agg #[.string a, .string b]] w fun e w' => e = .returned (.bool (decide (okL (a, b)))) ∧ Below w.heap.size w w' := by
  have hW : Below w.heap.size w (w.alloc (.cells #[.string a, .string b] 45)) := grew1 w _
  obtain ⟨a0, a1, -, -⟩ := At2.new w (.string a) (.string b) 45
  have CN := Lib.hid fun W => name8_any a W ha
  have CV := Lib.hid fun W => value8_any b W hb
  by_cases h1 : IsName a
  · rw [decide_eq_true h1] at CN
    have hE : Hid (decide (okL (a, b)) = decide (IsVal b)) := Lib.hid (by unfold okL; simp [h1])
    clear h1
    go_enter Tryz.func59, Tryz.ntmps59
    go_wp2_with fail
    refine (CN.out _).mono ?_; rintro e w1 ⟨rfl, rfl⟩
    go_wp2_with fail
    refine (CV.out _).mono ?_; rintro e w2 ⟨rfl, h2⟩
    have hB := hW.trans (h2.mono hW.size)
    go_wp2_with fail
    go_ret
    exact ⟨by rw [hE.out]; rfl, hB⟩
  · rw [decide_eq_false h1] at CN
    have hE : Hid (decide (okL (a, b)) = false) := Lib.hid (decide_eq_false fun h => h1 h.1)
    clear h1
    go_enter Tryz.func59, Tryz.ntmps59
    go_wp2_with fail
    refine (CN.out _).mono ?_; rintro e w1 ⟨rfl, rfl⟩
    go_wp2_with fail
    go_ret
    exact ⟨by rw [hE.out]; rfl, hW⟩

set_option maxRecDepth 100000 in
set_option maxHeartbeats 2000000 in
theorem allRight8_any (u : Value) (x : List Lab) (w : World) (hx : Labs w w.heap.size u x) (hn : x.length ≤ 1000000) (hz : ∀ l ∈ x, l.1.size ≤ 1000000 ∧ l.2.size ≤ 1000000) :
    Calls Tryz.prog 34 #[u] w fun e w' => e = .returned (.bool (decide (∀ l ∈ x, okL l))) ∧ Below w.heap.size w w' := by
  obtain ⟨A0, c0, rfl⟩ := hx.len
  have LX := Lib.hid hx
  have HZ := Lib.hid hz
  clear hx hz
  go_enter Tryz.func34, Tryz.ntmps34
  go_wp2_with fail
  go_loopw [7] (fun i wr => ∃ k : Nat, Below w.heap.size w wr ∧ k ≤ x.length ∧ i = .int .i64 k ∧ Hid (∀ j (h : j < x.length), j < k → okL x[j])) (fun i _ => x.length - (intOf i).toNat)
  case atStart => exact ⟨0, Below.refl _ _, Nat.zero_le _, rfl, Lib.hid fun j _ h => absurd h (by omega)⟩
  case round =>
    obtain ⟨k, hW, hk, rfl, hall⟩ := hrel
    by_cases hlt : k < x.length
    · obtain ⟨ax, rfl, hbx, hcx⟩ := (LX.out.below hW).at_ (by omega)
      obtain ⟨x0, x1⟩ := hcx k hlt
      rw [add_next] at x1
      have j0 : (0 : Int) ≤ (k : Int) := by omega
      have j1 : (k : Int) < (x.length : Int) := by omega
      have CR := Lib.hid fun W => lright8_any x[k].1 x[k].2 W (HZ.out _ (List.getElem_mem hlt)).1 (HZ.out _ (List.getElem_mem hlt)).2
      have hG := grew1 wr (.cells #[.string x[k].1, .string x[k].2] 45)
      by_cases hg : okL x[k]
      · have hall2 : Hid (∀ j (h : j < x.length), j < k + 1 → okL x[j]) := Lib.hid fun j hj hjk => by
          by_cases e : j = k
          · subst e; exact hg
          · exact hall.out j hj (by omega)
        have hb : decide (okL (x[k].1, x[k].2)) = true := decide_eq_true hg
        rw [hb] at CR
        clear hcx hall hg hb
        generalize x[k].1 = p0 at *
        generalize x[k].2 = p1 at *
        go_wp2_with fail
        refine (CR.out _).mono ?_; rintro e w2 ⟨rfl, h2⟩
        have hB := hW.trans ((hG.trans (h2.mono hG.size)).mono hW.size)
        go_wp2_with fail
        go_roundw
        case rel => exact ⟨k + 1, hB, hlt, by go_num, hall2⟩
        case measure => simp [intOf]; omega
      · have hE : Hid (decide (∀ l ∈ x, okL l) = false) := Lib.hid (decide_eq_false fun h => hg (h _ (List.getElem_mem hlt)))
        have hb : decide (okL (x[k].1, x[k].2)) = false := decide_eq_false hg
        rw [hb] at CR
        clear hcx hall hg hb
        generalize x[k].1 = p0 at *
        generalize x[k].2 = p1 at *
        go_wp2_with fail
        refine (CR.out _).mono ?_; rintro e w2 ⟨rfl, h2⟩
        have hB := hW.trans ((hG.trans (h2.mono hG.size)).mono hW.size)
        go_wp2_with fail
        go_ret
        exact ⟨by rw [hE.out]; rfl, hB⟩
    · obtain rfl : k = x.length := by omega
      have hE : Hid (decide (∀ l ∈ x, okL l) = true) := Lib.hid (decide_eq_true fun l hl => by
        obtain ⟨j, hj, rfl⟩ := List.getElem_of_mem hl
        exact hall.out j hj hj)
      go_wp2_with fail
      go_ret
      exact ⟨by rw [hE.out]; rfl, hW⟩

def AdjL (x : List Lab) (k : Nat) : Prop := ∀ i (h : i + 1 < x.length), i + 1 < k → ltS (x[i]'(by omega)).1 x[i + 1].1 = true
theorem adj_sorted {x : List Lab} : AdjL x x.length ↔ Sorted x := by
  unfold Sorted
  rw [List.pairwise_iff_getElem]
  constructor
  · intro h i j hi hj hij
    obtain ⟨d, rfl⟩ : ∃ d, j = i + d + 1 := ⟨j - i - 1, by omega⟩
    clear hij
    induction d with
    | zero => exact h i hj hj
    | succ d ih => exact ltS_trans (ih (by omega)) (h (i + d + 1) hj hj)
  · intro h i hi _
    exact h i (i + 1) (by omega) hi (by omega)

set_option maxRecDepth 100000 in
set_option maxHeartbeats 2000000 in
theorem incr8_any (u : Value) (x : List Lab) (w : World) (hx : Labs w w.heap.size u x) (hn : x.length ≤ 1000000) :
    Calls Tryz.prog 38 #[u] w fun e w' => e = .returned (.bool (decide (Sorted x))) ∧ Below w.heap.size w w' := by
  obtain ⟨A0, c0, rfl⟩ := hx.len
  have LX := Lib.hid hx
  clear hx
  go_enter Tryz.func38, Tryz.ntmps38
  go_wp2_with fail
  go_loopw [3] (fun i wr => ∃ k : Nat, (∃ d, w.drewN d = wr) ∧ 1 ≤ k ∧ (k = 1 ∨ k ≤ x.length) ∧ i = .int .i64 k ∧ Hid (AdjL x k)) (fun i _ => x.length - (intOf i).toNat)
  case atStart => exact ⟨1, ⟨0, rfl⟩, Nat.le_refl _, Or.inl rfl, rfl, Lib.hid fun i _ h => absurd h (by omega)⟩
  case round =>
    obtain ⟨k, ⟨d, rfl⟩, hk1, hk, rfl, hall⟩ := hrel
    have hW := below_drewN (Below.refl w.heap.size w) d
    by_cases hlt : k < x.length
    · obtain ⟨j, rfl⟩ : ∃ j, k = j + 1 := ⟨k - 1, by omega⟩
      obtain ⟨ax, rfl, hbx, hcx⟩ := LX.out.at_ (by omega)
      have x0 := (hcx (j + 1) hlt).1
      have y0 := (hcx j (by omega)).1
      have j1 : ((j + 1 : Nat) : Int) < (x.length : Int) := by omega
      have j0 : (0 : Int) ≤ ((j + 1 : Nat) : Int) := by omega
      have hk1 : ((j + 1 : Nat) : Int) - 1 = (j : Int) := by omega
      have j2 : (0 : Int) ≤ (j : Int) := by omega
      have j3 : (j : Int) < (x.length : Int) := by omega
      by_cases g3 : ltS (x[j]'(by omega)).1 x[j + 1].1 = true
      · have hall2 : Hid (AdjL x (j + 1 + 1)) := Lib.hid fun i hi hik => by
          by_cases e : i = j
          · subst e; exact g3
          · exact hall.out i hi (by omega)
        have g5 : Op.bytesLess (x[j]'(by omega)).1.toList x[j + 1].1.toList = true := g3
        clear hcx hall g3
        generalize x[j + 1].1 = p0 at *
        generalize (x[j]'(by omega)).1 = p2 at *
        generalize hkj : j + 1 = k at *
        go_wp2_with fail
        go_quiet (fail)
        go_wp2_with fail
        go_roundw
        case rel => exact ⟨k + 1, ⟨_, by first | rfl | (simp; rfl)⟩, by omega, Or.inr hlt, by go_num, hall2⟩
        case measure => simp [intOf]; omega
      · have hE : Hid (decide (Sorted x) = false) := Lib.hid (decide_eq_false fun h => g3 (adj_sorted.2 h j hlt hlt))
        have g5 : Op.bytesLess (x[j]'(by omega)).1.toList x[j + 1].1.toList = false := by simpa [ltS] using g3
        clear hcx hall g3
        generalize x[j + 1].1 = p0 at *
        generalize (x[j]'(by omega)).1 = p2 at *
        generalize hkj : j + 1 = k at *
        go_wp2_with fail
        go_quiet (fail)
        go_wp2_with fail
        go_ret
        exact ⟨by rw [hE.out]; rfl, below_drewN hW _⟩
    · have hE : Hid (decide (Sorted x) = true) := Lib.hid (decide_eq_true (adj_sorted.1 fun i hi hik => hall.out i hi (by omega)))
      have i1 : ¬ (k : Int) < (x.length : Int) := by omega
      go_wp2_with fail
      go_ret
      exact ⟨by rw [hE.out]; rfl, hW⟩

theorem right_parts {n : ByteArray} {x : List Lab} : IsRight n x ↔ IsName n ∧ x.length ≤ 8 ∧ (∀ l ∈ x, okL l) ∧ Sorted x := Iff.rfl
set_option maxRecDepth 100000 in
set_option maxHeartbeats 2000000 in
theorem right8_any (n : ByteArray) (u : Value) (x : List Lab) (w : World) (hx : Labs w w.heap.size u x) (hn : n.size ≤ 1000000) (hl : x.length ≤ 1000000) (hz : ∀ l ∈ x, l.1.size ≤ 1000000 ∧ l.2.size ≤ 1000000) :
    Calls Tryz.prog 14 #[.agg #[.string n, u]] w fun e w' => e = .returned (.bool (decide (IsRight n x))) ∧ Below w.heap.size w w' := by
  obtain ⟨A0, c0, rfl⟩ := hx.len
  have hW : Below w.heap.size w (w.alloc (.cells #[.string n, .slice A0 x.length c0] 24)) := grew1 w _
  have aX := At2.new w (.string n) (.slice A0 x.length c0) 24
  have LX := Lib.hid (hx.below hW)
  have HZ := Lib.hid hz
  have CN := Lib.hid fun W => name8_any n W hn
  have C1 : Hid (∀ W, Below w.heap.size w W → _) := Lib.hid fun W h => allRight8_any (.slice A0 x.length c0) x W ((hx.below h).more h.size) hl hz
  have C2 : Hid (∀ W, Below w.heap.size w W → _) := Lib.hid fun W h => incr8_any (.slice A0 x.length c0) x W ((hx.below h).more h.size) hl
  clear hx hz
  by_cases hnm : IsName n
  case neg =>
    have hE : Hid (decide (IsRight n x) = false) := Lib.hid (decide_eq_false fun h => hnm h.1)
    rw [decide_eq_false hnm] at CN
    obtain ⟨a0, a1, -, -⟩ := aX
    clear hnm
    go_enter Tryz.func14, Tryz.ntmps14
    go_wp2_with fail
    refine (CN.out _).mono ?_; rintro e w1 ⟨rfl, rfl⟩
    go_wp2_with fail
    go_ret
    exact ⟨by rw [hE.out]; rfl, hW⟩
  rw [decide_eq_true hnm] at CN
  by_cases h1 : 8 < x.length
  · have hE : Hid (decide (IsRight n x) = false) := Lib.hid (decide_eq_false fun h => absurd h.2.1 (by omega))
    have i1 : ¬ (x.length : Int) ≤ 8 := by omega
    obtain ⟨a0, a1, -, -⟩ := aX
    clear hnm
    go_enter Tryz.func14, Tryz.ntmps14
    go_wp2_with fail
    refine (CN.out _).mono ?_; rintro e w1 ⟨rfl, rfl⟩
    go_wp2_with fail
    go_ret
    exact ⟨by rw [hE.out]; rfl, hW⟩
  have i1 : (x.length : Int) ≤ 8 := by omega
  by_cases h2 : ∀ l ∈ x, okL l
  case neg =>
    have hE : Hid (decide (IsRight n x) = false) := Lib.hid (decide_eq_false fun h => h2 h.2.2.1)
    rw [decide_eq_false h2] at C1
    obtain ⟨a0, a1, -, -⟩ := aX
    clear hnm h2
    go_enter Tryz.func14, Tryz.ntmps14
    go_wp2_with fail
    refine (CN.out _).mono ?_; rintro e w1 ⟨rfl, rfl⟩
    go_wp2_with fail
    refine (C1.out _ hW).mono ?_; rintro e w1 ⟨rfl, h3⟩
    have hB := hW.trans (h3.mono hW.size)
    go_wp2_with fail
    go_ret
    exact ⟨by rw [hE.out]; rfl, hB⟩
  have hE : Hid (decide (IsRight n x) = decide (Sorted x)) := Lib.hid (by
    by_cases h3 : Sorted x
    · rw [decide_eq_true h3, decide_eq_true (show IsRight n x from ⟨hnm, by omega, h2, h3⟩)]
    · rw [decide_eq_false h3, decide_eq_false fun h : IsRight n x => h3 h.2.2.2])
  rw [decide_eq_true h2] at C1
  clear hnm h2
  have aX0 := aX
  obtain ⟨a0, a1, -, -⟩ := aX0
  go_enter Tryz.func14, Tryz.ntmps14
  go_wp2_with fail
  refine (CN.out _).mono ?_; rintro e w1 ⟨rfl, rfl⟩
  go_wp2_with fail
  refine (C1.out _ hW).mono ?_; rintro e w1 ⟨rfl, h3⟩
  have hB := hW.trans (h3.mono hW.size)
  obtain ⟨b0, b1, -, -⟩ := aX.below h3
  clear a0 a1
  go_wp2_with fail
  refine (C2.out _ hB).mono ?_; rintro e w2 ⟨rfl, h4⟩
  have hB2 := hB.trans (h4.mono hB.size)
  go_wp2_with fail
  go_ret
  exact ⟨by rw [hE.out]; rfl, hB2⟩
end
end Go.Proofs.YteiilmnehdbdiaaGreatDoor
