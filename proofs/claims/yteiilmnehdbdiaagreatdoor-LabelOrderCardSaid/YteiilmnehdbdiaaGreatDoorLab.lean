/- Labels, as texts: their order; names and values; texts of series. -/
import Derived.RowKit
import Derived.Lib.Strings
import Derived.Sort.Walk0
namespace Go.Proofs.YteiilmnehdbdiaaGreatDoor

section
open Go.RowKit

/-! order of texts -/
theorem less_irrefl : ∀ l : List UInt8, Op.bytesLess l l = false
  | [] => rfl
  | a :: x => by rw [Op.bytesLess, less_irrefl x]; simp
theorem less_trans : ∀ {a b c : List UInt8}, Op.bytesLess a b = true → Op.bytesLess b c = true → Op.bytesLess a c = true
  | [], [], _, h, _ => by simp [Op.bytesLess] at h
  | _ :: _, [], _, h, _ => by simp [Op.bytesLess] at h
  | _, _ :: _, [], _, h => by simp [Op.bytesLess] at h
  | [], _ :: _, _ :: _, _, _ => rfl
  | a :: x, b :: y, c :: z, h1, h2 => by
    simp only [Op.bytesLess, Bool.or_eq_true, Bool.and_eq_true, decide_eq_true_eq, beq_iff_eq, UInt8.lt_iff_toNat_lt] at h1 h2 ⊢
    rcases h1 with h1 | ⟨rfl, h1⟩
    · rcases h2 with h2 | ⟨rfl, h2⟩
      · exact Or.inl (Nat.lt_trans h1 h2)
      · exact Or.inl h1
    · rcases h2 with h2 | ⟨rfl, h2⟩
      · exact Or.inl h2
      · exact Or.inr ⟨rfl, less_trans h1 h2⟩
theorem less_or : ∀ a b : List UInt8, a = b ∨ Op.bytesLess a b = true ∨ Op.bytesLess b a = true
  | [], [] => Or.inl rfl
  | [], _ :: _ => Or.inr (Or.inl rfl)
  | _ :: _, [] => Or.inr (Or.inr rfl)
  | a :: x, b :: y => by
    simp only [Op.bytesLess, Bool.or_eq_true, Bool.and_eq_true, decide_eq_true_eq, beq_iff_eq, UInt8.lt_iff_toNat_lt, List.cons.injEq]
    rcases Nat.lt_trichotomy a.toNat b.toNat with h | h | h
    · exact Or.inr (Or.inl (Or.inl h))
    · have e : a = b := UInt8.toNat_inj.1 h
      subst e
      rcases less_or x y with h | h | h
      · exact Or.inl ⟨rfl, h⟩
      · exact Or.inr (Or.inl (Or.inr ⟨rfl, h⟩))
      · exact Or.inr (Or.inr (Or.inr ⟨rfl, h⟩))
    · exact Or.inr (Or.inr (Or.inl h))
def ltS (a b : ByteArray) : Bool := Op.bytesLess a.toList b.toList
theorem toList_one {a b : ByteArray} : a.toList = b.toList ↔ a = b :=
  ⟨fun h => ByteArray.ext (Array.toList_inj.1 (by rwa [ByteArray.toList_eq, ByteArray.toList_eq] at h)), fun h => by rw [h]⟩
theorem ltS_irrefl (a : ByteArray) : ltS a a = false := less_irrefl _
theorem ltS_trans {a b c : ByteArray} (h1 : ltS a b = true) (h2 : ltS b c = true) : ltS a c = true := less_trans h1 h2
theorem ltS_or (a b : ByteArray) : a = b ∨ ltS a b = true ∨ ltS b a = true := (less_or a.toList b.toList).imp toList_one.1 id
theorem ltS_not {a b : ByteArray} (h : ltS a b = true) : ltS b a = false := by
  cases e : ltS b a with
  | false => rfl
  | true => have := ltS_trans h e; rw [ltS_irrefl] at this; cases this
theorem ltS_ne {a b : ByteArray} (h : ltS a b = true) : a ≠ b := fun e => by rw [e, ltS_irrefl] at h; cases h
/-- Which of two texts comes first. -/
def ordS (a b : ByteArray) : Int := if ltS a b = true then -1 else if ltS b a = true then 1 else 0
theorem ordS_self (a : ByteArray) : ordS a a = 0 := by unfold ordS; rw [ltS_irrefl]; rfl
theorem ordS_neg (a b : ByteArray) : ordS b a = -ordS a b := by
  unfold ordS
  rcases ltS_or a b with rfl | h | h
  · rw [ltS_irrefl]; rfl
  · rw [ltS_not h, h]; rfl
  · rw [ltS_not h, h]; rfl
theorem ordS_zero {a b : ByteArray} : ordS a b = 0 ↔ a = b := by
  constructor
  · intro h
    rcases ltS_or a b with e | e | e
    · exact e
    · unfold ordS at h; rw [if_pos e] at h; omega
    · unfold ordS at h; rw [if_neg (by rw [ltS_not e]; simp), if_pos e] at h; omega
  · rintro rfl; exact ordS_self a
theorem ordS_lt {a b : ByteArray} : ordS a b = -1 ↔ ltS a b = true := by
  unfold ordS
  constructor
  · intro h
    by_cases e : ltS a b = true
    · exact e
    · rw [if_neg e] at h; split at h <;> omega
  · intro h; rw [if_pos h]
theorem ordS_bd (a b : ByteArray) : ordS a b = -1 ∨ ordS a b = 0 ∨ ordS a b = 1 := by
  unfold ordS
  split
  · exact Or.inl rfl
  · split
    · exact Or.inr (Or.inr rfl)
    · exact Or.inr (Or.inl rfl)

/-! labels, series -/
abbrev Lab := ByteArray × ByteArray
def cmpL : List Lab → List Lab → Int
  | [], [] => 0
  | [], _ :: _ => -1
  | _ :: _, [] => 1
  | a :: x, b :: y => if ordS a.1 b.1 ≠ 0 then ordS a.1 b.1 else if ordS a.2 b.2 ≠ 0 then ordS a.2 b.2 else cmpL x y
def cmpI (n m : ByteArray) (x y : List Lab) : Int := if ordS n m ≠ 0 then ordS n m else cmpL x y
theorem cmpL_neg : ∀ x y : List Lab, cmpL y x = -cmpL x y
  | [], [] => rfl
  | [], _ :: _ => rfl
  | _ :: _, [] => rfl
  | a :: x, b :: y => by
    unfold cmpL
    rw [ordS_neg a.1 b.1, ordS_neg a.2 b.2, cmpL_neg x y]
    by_cases h1 : ordS a.1 b.1 = 0
    · rw [if_neg (show ¬ -ordS a.1 b.1 ≠ 0 by omega), if_neg (show ¬ ordS a.1 b.1 ≠ 0 by omega)]
      by_cases h2 : ordS a.2 b.2 = 0
      · rw [if_neg (show ¬ -ordS a.2 b.2 ≠ 0 by omega), if_neg (show ¬ ordS a.2 b.2 ≠ 0 by omega)]
      · rw [if_pos (show -ordS a.2 b.2 ≠ 0 by omega), if_pos (show ordS a.2 b.2 ≠ 0 by omega)]
    · rw [if_pos (show -ordS a.1 b.1 ≠ 0 by omega), if_pos (show ordS a.1 b.1 ≠ 0 by omega)]
theorem cmpL_bd : ∀ x y : List Lab, cmpL x y = -1 ∨ cmpL x y = 0 ∨ cmpL x y = 1
  | [], [] => Or.inr (Or.inl rfl)
  | [], _ :: _ => Or.inl rfl
  | _ :: _, [] => Or.inr (Or.inr rfl)
  | a :: x, b :: y => by
    unfold cmpL
    split
    · exact ordS_bd _ _
    · split
      · exact ordS_bd _ _
      · exact cmpL_bd x y
theorem cmpL_zero : ∀ {x y : List Lab}, cmpL x y = 0 ↔ x = y
  | [], [] => by simp [cmpL]
  | [], _ :: _ => by simp [cmpL]
  | _ :: _, [] => by simp [cmpL]
  | a :: x, b :: y => by
    unfold cmpL
    rw [List.cons.injEq, Prod.ext_iff]
    by_cases h1 : ordS a.1 b.1 = 0
    · rw [if_neg (by simpa using h1)]
      by_cases h2 : ordS a.2 b.2 = 0
      · rw [if_neg (by simpa using h2), cmpL_zero]
        exact ⟨fun h => ⟨⟨ordS_zero.1 h1, ordS_zero.1 h2⟩, h⟩, fun h => h.2⟩
      · rw [if_pos h2]
        exact ⟨fun h => absurd h h2, fun h => absurd (ordS_zero.2 h.1.2) h2⟩
    · rw [if_pos h1]
      exact ⟨fun h => absurd h h1, fun h => absurd (ordS_zero.2 h.1.1) h1⟩
theorem cmpL_trans : ∀ {x y z : List Lab}, cmpL x y ≤ 0 → cmpL y z ≤ 0 → cmpL x z ≤ 0
  | [], _, [], _, _ => by simp [cmpL]
  | [], _, _ :: _, _, _ => by simp [cmpL]
  | _ :: _, [], _, h, _ => by simp [cmpL] at h
  | _ :: _, _ :: _, [], _, h => by simp [cmpL] at h
  | a :: x, b :: y, c :: z, h1, h2 => by
    unfold cmpL at h1 h2 ⊢
    have key : ∀ {a b c : ByteArray}, ordS a b ≤ 0 → ordS b c ≤ 0 → ordS a c ≤ 0 ∧ (ordS a c = 0 → ordS a b = 0 ∧ ordS b c = 0) := fun {a b c} h1 h2 => by
      rcases ordS_bd a b with e1 | e1 | e1
      · rcases ordS_bd b c with e2 | e2 | e2
        · have := ordS_lt.2 (ltS_trans (ordS_lt.1 e1) (ordS_lt.1 e2)); omega
        · have := ordS_zero.1 e2; subst this; omega
        · omega
      · have := ordS_zero.1 e1; subst this; exact ⟨h2, fun h => ⟨e1, h⟩⟩
      · omega
    have hn1 : ordS a.1 b.1 ≤ 0 := by split at h1 <;> omega
    have hn2 : ordS b.1 c.1 ≤ 0 := by split at h2 <;> omega
    obtain ⟨k1, k2⟩ := key hn1 hn2
    by_cases e1 : ordS a.1 c.1 = 0
    · obtain ⟨e2, e3⟩ := k2 e1
      rw [if_neg (by simpa using e2)] at h1
      rw [if_neg (by simpa using e3)] at h2
      rw [if_neg (by simpa using e1)]
      have hv1 : ordS a.2 b.2 ≤ 0 := by split at h1 <;> omega
      have hv2 : ordS b.2 c.2 ≤ 0 := by split at h2 <;> omega
      obtain ⟨l1, l2⟩ := key hv1 hv2
      by_cases f1 : ordS a.2 c.2 = 0
      · obtain ⟨f2, f3⟩ := l2 f1
        rw [if_neg (by simpa using f2)] at h1
        rw [if_neg (by simpa using f3)] at h2
        rw [if_neg (by simpa using f1)]
        exact cmpL_trans h1 h2
      · rw [if_pos f1]; exact l1
    · rw [if_pos e1]; exact k1

/-! what is made of labels -/
def Sorted (ls : List Lab) : Prop := ls.Pairwise fun a b => ltS a.1 b.1 = true
def insL (x : Lab) : List Lab → Option (List Lab)
  | [] => some [x]
  | y :: t => if y.1 = x.1 then none else if ltS x.1 y.1 = true then some (x :: y :: t) else (insL x t).map (y :: ·)
def makeL : List Lab → List Lab → Option (List Lab)
  | acc, [] => some acc
  | acc, l :: t => (insL l acc).bind (makeL · t)
theorem insL_some : ∀ {acc r : List Lab} {x : Lab}, Sorted acc → insL x acc = some r → Sorted r ∧ r.Perm (x :: acc)
  | [], r, x, _, h => by
    simp only [insL, Option.some.injEq] at h
    subst h
    exact ⟨List.pairwise_singleton _ _, List.Perm.refl _⟩
  | y :: t, r, x, hs, h => by
    rw [insL] at h
    obtain ⟨hy, ht⟩ := List.pairwise_cons.1 hs
    by_cases e : y.1 = x.1
    · rw [if_pos e] at h; cases h
    rw [if_neg e] at h
    by_cases l : ltS x.1 y.1 = true
    · rw [if_pos l] at h
      injection h with h
      subst h
      refine ⟨List.pairwise_cons.2 ⟨fun z hz => ?_, hs⟩, List.Perm.refl _⟩
      rcases List.mem_cons.1 hz with rfl | hz
      · exact l
      · exact ltS_trans l (hy z hz)
    · rw [if_neg l] at h
      obtain ⟨r', h', rfl⟩ := Option.map_eq_some_iff.1 h
      obtain ⟨h1, h2⟩ := insL_some ht h'
      refine ⟨List.pairwise_cons.2 ⟨fun z hz => ?_, h1⟩, (h2.cons y).trans (List.Perm.swap x y t)⟩
      rcases List.mem_cons.1 (h2.mem_iff.1 hz) with rfl | hz
      · rcases ltS_or y.1 z.1 with h | h | h
        · exact absurd h e
        · exact h
        · exact absurd h l
      · exact hy z hz
theorem insL_none : ∀ {acc : List Lab} {x : Lab}, Sorted acc → (insL x acc = none ↔ ∃ y ∈ acc, y.1 = x.1)
  | [], x, _ => by simp [insL]
  | y :: t, x, hs => by
    obtain ⟨hy, ht⟩ := List.pairwise_cons.1 hs
    rw [insL]
    by_cases e : y.1 = x.1
    · rw [if_pos e]; exact ⟨fun _ => ⟨y, List.mem_cons_self .., e⟩, fun _ => rfl⟩
    rw [if_neg e]
    by_cases l : ltS x.1 y.1 = true
    · rw [if_pos l]
      refine ⟨fun h => (by cases h), fun ⟨z, hz, hze⟩ => ?_⟩
      rcases List.mem_cons.1 hz with rfl | hz
      · exact absurd hze e
      · have := ltS_trans l (hy z hz)
        rw [hze, ltS_irrefl] at this; cases this
    · rw [if_neg l, Option.map_eq_none_iff, insL_none ht]
      refine ⟨fun ⟨z, hz, hze⟩ => ⟨z, List.mem_cons_of_mem _ hz, hze⟩, fun ⟨z, hz, hze⟩ => ?_⟩
      rcases List.mem_cons.1 hz with rfl | hz
      · exact absurd hze e
      · exact ⟨z, hz, hze⟩
theorem makeL_some : ∀ {ls acc r : List Lab}, Sorted acc → makeL acc ls = some r → Sorted r ∧ r.Perm (acc ++ ls)
  | [], acc, r, hs, h => by
    injection h with h
    subst h
    rw [List.append_nil]
    exact ⟨hs, List.Perm.refl _⟩
  | l :: t, acc, r, hs, h => by
    obtain ⟨a, h1, h2⟩ := Option.bind_eq_some_iff.1 h
    obtain ⟨k1, k2⟩ := insL_some hs h1
    obtain ⟨k3, k4⟩ := makeL_some k1 h2
    exact ⟨k3, k4.trans ((k2.append_right t).trans List.perm_middle.symm)⟩
theorem sorted_nodup {ls : List Lab} (h : Sorted ls) : (ls.map (·.1)).Nodup := by
  unfold List.Nodup
  rw [List.pairwise_map]
  exact h.imp fun h => ltS_ne h
theorem makeL_none : ∀ {ls acc : List Lab}, Sorted acc → makeL acc ls = none → ¬ ((acc ++ ls).map (·.1)).Nodup
  | [], acc, _, h => by cases h
  | l :: t, acc, hs, h => by
    intro hn
    cases e : insL l acc with
    | none =>
      obtain ⟨y, hy, hye⟩ := (insL_none hs).1 e
      rw [List.map_append] at hn
      exact (List.nodup_append.1 hn).2.2 _ (List.mem_map.2 ⟨y, hy, rfl⟩) _ (List.mem_map.2 ⟨l, List.mem_cons_self .., rfl⟩) hye
    | some a =>
      rw [makeL, e] at h
      obtain ⟨k1, k2⟩ := insL_some hs e
      exact makeL_none k1 h ((((k2.append_right t).trans List.perm_middle.symm).map (·.1)).nodup_iff.2 hn)
/-- In whatever order labels come, they make one series. -/
theorem makeL_one {ls ls' : List Lab} (hs : Sorted ls) (hp : ls'.Perm ls) : makeL [] ls' = some ls := by
  cases e : makeL [] ls' with
  | none => exact absurd ((hp.map (·.1)).nodup_iff.2 (sorted_nodup hs)) (makeL_none List.Pairwise.nil e)
  | some r =>
    obtain ⟨h1, h2⟩ := makeL_some List.Pairwise.nil e
    rw [List.Perm.eq_of_pairwise (fun a b _ _ h1 h2 => by rw [ltS_not h1] at h2; cases h2) h1 hs (h2.trans hp)]
end

section
open Go.RowKit

def nameOk (i c : Nat) : Bool := decide (97 ≤ c ∧ c ≤ 122) || (decide (0 < i) && (decide (c = 95) || decide (48 ≤ c ∧ c ≤ 57)))
def valOk (c : Nat) : Bool := decide (33 ≤ c ∧ c ≤ 126 ∧ c ≠ 44 ∧ c ≠ 61 ∧ c ≠ 123 ∧ c ≠ 125)
def IsName (s : ByteArray) : Prop := 1 ≤ s.size ∧ s.size ≤ 64 ∧ ∀ i (h : i < s.size), nameOk i s[i].toNat = true
def IsVal (s : ByteArray) : Prop := s.size ≤ 64 ∧ ∀ i (h : i < s.size), valOk s[i].toNat = true
instance (s : ByteArray) : Decidable (IsName s) := by unfold IsName; infer_instance
instance (s : ByteArray) : Decidable (IsVal s) := by unfold IsVal; infer_instance
instance (ls : List Lab) : Decidable (Sorted ls) := by unfold Sorted; infer_instance
def IsRight (n : ByteArray) (ls : List Lab) : Prop := IsName n ∧ ls.length ≤ 8 ∧ (∀ l ∈ ls, IsName l.1 ∧ IsVal l.2) ∧ Sorted ls
instance (n : ByteArray) (ls : List Lab) : Decidable (IsRight n ls) := by unfold IsRight; infer_instance
/-- Is the part before the k-th label right? -/
def RightTo (ls : List Lab) (k : Nat) : Prop := ∀ j (h : j < ls.length), j < k → IsName ls[j].1 ∧ IsVal ls[j].2 ∧ ∀ i (h2 : i + 1 = j), ltS (ls[i]'(by omega)).1 ls[j].1 = true
theorem rightTo_all {ls : List Lab} : RightTo ls ls.length ↔ (∀ l ∈ ls, IsName l.1 ∧ IsVal l.2) ∧ Sorted ls := by
  constructor
  · intro h
    refine ⟨fun l hl => ?_, ?_⟩
    · obtain ⟨j, hj, rfl⟩ := List.getElem_of_mem hl
      exact ⟨(h j hj hj).1, (h j hj hj).2.1⟩
    · unfold Sorted
      rw [List.pairwise_iff_getElem]
      have key : ∀ d i (hd : i + d + 1 < ls.length), ltS (ls[i]'(by omega)).1 ls[i + d + 1].1 = true := by
        intro d
        induction d with
        | zero => intro i hd; exact (h (i + 1) hd hd).2.2 i rfl
        | succ d ih => intro i hd; exact ltS_trans (ih i (by omega)) ((h (i + (d + 1) + 1) hd hd).2.2 (i + d + 1) (by omega))
      intro i j hi hj hij
      obtain ⟨d, rfl⟩ := Nat.exists_eq_add_of_lt hij
      exact key d i hj
  · rintro ⟨h1, h2⟩ j hj _
    refine ⟨(h1 _ (List.getElem_mem hj)).1, (h1 _ (List.getElem_mem hj)).2, fun i h => ?_⟩
    exact List.pairwise_iff_getElem.1 h2 i j (by omega) hj (by omega)
theorem rightTo_zero (ls : List Lab) : RightTo ls 0 := fun _ _ h => absurd h (by omega)
theorem rightTo_next {ls : List Lab} {k : Nat} (hk : k < ls.length) (h : RightTo ls k) (h1 : IsName ls[k].1) (h2 : IsVal ls[k].2) (h3 : ∀ i (h2 : i + 1 = k), ltS (ls[i]'(by omega)).1 ls[k].1 = true) : RightTo ls (k + 1) := fun j hj hjk => by
  by_cases e : j = k
  · subst e; exact ⟨h1, h2, h3⟩
  · exact h j hj (by omega)
theorem right_to {n : ByteArray} {ls : List Lab} : IsRight n ls ↔ IsName n ∧ ls.length ≤ 8 ∧ RightTo ls ls.length := by rw [rightTo_all]; rfl

/-! a label's value by its name -/
def getL (ls : List Lab) (n : ByteArray) : Option ByteArray := (ls.find? fun l => decide (l.1 = n)).map (·.2)
theorem getL_mem : ∀ {ls : List Lab} {l : Lab}, (ls.map (·.1)).Nodup → l ∈ ls → getL ls l.1 = some l.2
  | x :: t, l, hn, hl => by
    unfold getL
    rw [List.find?_cons]
    by_cases e : x.1 = l.1
    · rw [decide_eq_true e]
      rcases List.mem_cons.1 hl with rfl | hl
      · rfl
      · exact absurd (List.mem_map.2 ⟨l, hl, e.symm⟩) (List.nodup_cons.1 (by rwa [List.map_cons] at hn)).1
    · rw [decide_eq_false e]
      rcases List.mem_cons.1 hl with rfl | hl
      · exact absurd rfl e
      · exact getL_mem (List.nodup_cons.1 (by rwa [List.map_cons] at hn)).2 hl
  | [], _, _, hl => (List.not_mem_nil hl).elim
theorem getL_none {ls : List Lab} {n : ByteArray} : getL ls n = none ↔ ∀ l ∈ ls, l.1 ≠ n := by
  unfold getL
  rw [Option.map_eq_none_iff, List.find?_eq_none]
  simp
theorem getL_perm {ls ls' : List Lab} (hn : (ls.map (·.1)).Nodup) (hp : ls'.Perm ls) (n : ByteArray) : getL ls' n = getL ls n := by
  cases e : getL ls n with
  | none => exact getL_none.2 fun l hl => getL_none.1 e l (hp.mem_iff.1 hl)
  | some v =>
    obtain ⟨l, hl, rfl⟩ := Option.map_eq_some_iff.1 e
    have h1 := List.mem_of_find?_eq_some hl
    have h2 : l.1 = n := by have := List.find?_some hl; simpa using this
    subst h2
    exact getL_mem ((hp.map (·.1)).nodup_iff.2 hn) (hp.mem_iff.2 h1)

/-! series as text -/
def oneS (c : UInt8) : ByteArray := ⟨#[c]⟩
def pieceS (k : Nat) (l : Lab) : ByteArray := (if k = 0 then oneS 123 else oneS 44) ++ l.1 ++ oneS 61 ++ l.2
def preS (n : ByteArray) (ls : List Lab) : Nat → ByteArray
  | 0 => n
  | k + 1 => preS n ls k ++ pieceS k (ls.getD k (ByteArray.empty, ByteArray.empty))
def fullS (n : ByteArray) (ls : List Lab) : ByteArray := if ls = [] then n else preS n ls ls.length ++ oneS 125
def textS (n : ByteArray) (ls : List Lab) : ByteArray := if IsRight n ls then fullS n ls else ByteArray.empty
/-- .. as a list of bytes. -/
def bodyB : List Lab → List UInt8
  | [] => []
  | [l] => l.1.data.toList ++ 61 :: l.2.data.toList ++ [125]
  | l :: t => l.1.data.toList ++ 61 :: l.2.data.toList ++ 44 :: bodyB t
end

section
open Go.RowKit

abbrev LabB := List UInt8 × List UInt8
abbrev StP := List UInt8 × List UInt8 × List LabB
def stepP (s : StP) (c : UInt8) : StP := if c = 61 then ([], s.1, s.2.2) else if c = 44 ∨ c = 125 then ([], [], s.2.2 ++ [(s.2.1, s.1)]) else (s.1 ++ [c], s.2.1, s.2.2)
def PlainB (l : List UInt8) : Prop := ∀ c ∈ l, c ≠ 61 ∧ c ≠ 44 ∧ c ≠ 125 ∧ c ≠ 123
theorem stepP_plain : ∀ (l : List UInt8) (wd nm : List UInt8) (out : List LabB), PlainB l → l.foldl stepP (wd, nm, out) = (wd ++ l, nm, out)
  | [], wd, nm, out, _ => by simp
  | c :: t, wd, nm, out, h => by
    obtain ⟨h1, h2, h3, _⟩ := h c (List.mem_cons_self ..)
    rw [List.foldl_cons, show stepP (wd, nm, out) c = (wd ++ [c], nm, out) by unfold stepP; rw [if_neg h1, if_neg (by simp [h2, h3])], stepP_plain t _ _ _ (fun x hx => h x (List.mem_cons_of_mem _ hx))]
    simp
def bodyP : List LabB → List UInt8
  | [] => []
  | [l] => l.1 ++ 61 :: (l.2 ++ [125])
  | l :: m :: t => l.1 ++ 61 :: (l.2 ++ 44 :: bodyP (m :: t))
theorem stepP_one (l : LabB) (c : UInt8) (rest : List UInt8) (out : List LabB) (h1 : PlainB l.1) (h2 : PlainB l.2) (hc : c = 44 ∨ c = 125) : (l.1 ++ 61 :: (l.2 ++ c :: rest)).foldl stepP ([], [], out) = rest.foldl stepP ([], [], out ++ [l]) := by
  have hc1 : c ≠ 61 := by rcases hc with rfl | rfl <;> decide
  rw [List.foldl_append, stepP_plain _ _ _ _ h1, List.foldl_cons, show stepP ([] ++ l.1, [], out) 61 = ([], l.1, out) from rfl, List.foldl_append, stepP_plain _ _ _ _ h2, List.foldl_cons,
    show stepP ([] ++ l.2, l.1, out) c = ([], [], out ++ [l]) by unfold stepP; rw [if_neg hc1, if_pos hc]; rfl]
theorem fold_body : ∀ (ls : List LabB) (out : List LabB), (∀ l ∈ ls, PlainB l.1 ∧ PlainB l.2) → (bodyP ls).foldl stepP ([], [], out) = ([], [], out ++ ls)
  | [], out, _ => by simp [bodyP]
  | [l], out, h => by
    obtain ⟨h1, h2⟩ := h l (List.mem_cons_self ..)
    rw [bodyP, stepP_one l 125 [] out h1 h2 (Or.inr rfl)]
    rfl
  | l :: m :: t, out, h => by
    obtain ⟨h1, h2⟩ := h l (List.mem_cons_self ..)
    rw [bodyP, stepP_one l 44 _ out h1 h2 (Or.inl rfl), fold_body (m :: t) (out ++ [l]) (fun x hx => h x (List.mem_cons_of_mem _ hx))]
    simp
/-- How many labels there are never falls. -/
theorem fold_rises : ∀ (l : List UInt8) (s : StP), s.2.2.length ≤ (l.foldl stepP s).2.2.length
  | [], _ => Nat.le_refl _
  | c :: t, s => by
    rw [List.foldl_cons]
    refine Nat.le_trans ?_ (fold_rises t _)
    unfold stepP
    split
    · exact Nat.le_refl _
    · split
      · simp
      · exact Nat.le_refl _
/-- A name's, and a value's, bytes are none of the four signs. -/
theorem name_plain {s : ByteArray} (h : IsName s) : PlainB s.data.toList := fun c hc => by
  obtain ⟨i, hi, rfl⟩ := List.getElem_of_mem hc
  have := h.2.2 i (by simpa using hi)
  have e : s.data.toList[i] = s[i]'(by simpa using hi) := rfl
  rw [e]
  unfold nameOk at this
  simp at this
  refine ⟨?_, ?_, ?_, ?_⟩ <;> (intro e; rw [e] at this; simp at this)
theorem val_plain {s : ByteArray} (h : IsVal s) : PlainB s.data.toList := fun c hc => by
  obtain ⟨i, hi, rfl⟩ := List.getElem_of_mem hc
  have := h.2 i (by simpa using hi)
  have e : s.data.toList[i] = s[i]'(by simpa using hi) := rfl
  rw [e]
  unfold valOk at this
  simp at this
  refine ⟨?_, ?_, ?_, ?_⟩ <;> (intro e; rw [e] at this; simp at this)

/-! the text's bytes -/
def labB (l : Lab) : LabB := (l.1.data.toList, l.2.data.toList)
def tailP (k : Nat) (ls : List Lab) : List UInt8 := match ls with
  | [] => []
  | l :: t => (if k = 0 then 123 else 44) :: (l.1.data.toList ++ 61 :: (l.2.data.toList ++ tailP (k + 1) t))
theorem app_data (a b : ByteArray) : (a ++ b).data.toList = a.data.toList ++ b.data.toList := by simp
theorem pre_tail : ∀ (j : Nat) (n : ByteArray) (ls : List Lab) (k : Nat), k + j = ls.length → (preS n ls ls.length).data.toList = (preS n ls k).data.toList ++ tailP k (ls.drop k)
  | 0, n, ls, k, h => by
    obtain rfl : k = ls.length := by omega
    rw [List.drop_length]; simp [tailP]
  | j + 1, n, ls, k, h => by
    have hk : k < ls.length := by omega
    rw [pre_tail j n ls (k + 1) (by omega), List.drop_eq_getElem_cons hk, tailP, preS]
    have e : ls.getD k (ByteArray.empty, ByteArray.empty) = ls[k] := by rw [List.getD_eq_getElem?_getD, List.getElem?_eq_getElem hk]; rfl
    rw [e, app_data]
    unfold pieceS
    by_cases h0 : k = 0
    · rw [if_pos h0, if_pos h0]; simp [oneS]
    · rw [if_neg h0, if_neg h0]; simp [oneS]
theorem tail_body : ∀ (l : Lab) (t : List Lab) (k : Nat), tailP k (l :: t) ++ [125] = (if k = 0 then 123 else 44) :: bodyP ((l :: t).map labB)
  | l, [], k => by simp [tailP, bodyP, labB]
  | l, m :: t, k => by
    have := tail_body m t (k + 1)
    rw [if_neg (by omega)] at this
    rw [tailP]
    simp only [List.cons_append, List.append_assoc, List.map_cons, bodyP] at this ⊢
    rw [this]
    rfl
/-- A right series' text: its name, and, if it has labels, the sign and the labels' part. -/
theorem full_bytes (n : ByteArray) (ls : List Lab) : (fullS n ls).data.toList = n.data.toList ++ if ls = [] then [] else 123 :: bodyP (ls.map labB) := by
  unfold fullS
  match ls with
  | [] => simp
  | l :: t =>
    rw [if_neg (by simp), if_neg (by simp), app_data, pre_tail (l :: t).length n (l :: t) 0 (by simp), List.drop_zero, preS, List.append_assoc]
    have := tail_body l t 0
    rw [if_pos rfl] at this
    rw [show (oneS 125).data.toList = [125] from rfl, this]
end
end Go.Proofs.YteiilmnehdbdiaaGreatDoor
