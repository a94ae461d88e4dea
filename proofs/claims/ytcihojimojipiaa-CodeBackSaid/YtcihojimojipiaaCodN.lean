/- Reading what was written, whole or cut: the reader's state, item by item. -/
import Derived.Test.YtcihojimojipiaaCodC
namespace Go.Proofs.Ytcihojimojipiaa

/-- What is still to come, whole (good) or cut. -/
def InvT (good : Bool) (full bs : List Int) (e : Int) (ok : Bool) : Prop :=
  (good = true ∧ bs = full ∧ e = 0 ∧ ok = true) ∨ (good = false ∧ (e = 15 ∨ (e = 0 ∧ ∃ n, n < full.length ∧ bs = full.take n)))
theorem InvT.err {good : Bool} {bs : List Int} {e : Int} {ok : Bool} (h : InvT good [] bs e ok) : (good = true ∧ bs = [] ∧ e = 0 ∧ ok = true) ∨ (good = false ∧ e = 15) := by
  rcases h with h | ⟨h, h1 | ⟨h1, n, h2, -⟩⟩
  · exact Or.inl h
  · exact Or.inr ⟨h, h1⟩
  · simp at h2
theorem stU_15 (bs : List Int) : stU bs 15 = (0, bs, 15) := if_neg (by decide)
theorem stU_0 (bs : List Int) : stU bs 0 = readU bs := if_pos rfl
theorem take_app {a b : List Int} {n : Nat} (h : a.length ≤ n) : (a ++ b).take n = a ++ b.take (n - a.length) := by
  rw [List.take_append, List.take_of_length_le h]
theorem take_lt {a b : List Int} {n : Nat} (h : n < a.length) : (a ++ b).take n = a.take n := by
  rw [List.take_append, show n - a.length = 0 by omega, List.take_zero, List.append_nil]
/-- A number more. -/
theorem InvT.num {good : Bool} {full bs : List Int} {e : Int} {ok : Bool} {m : Nat} (hm : m < 18446744073709551616) (h : InvT good (lebL m ++ full) bs e ok) :
    ∃ x, (stU bs e).1 = x ∧ (good = true → x = m) ∧ ∀ c : Bool, (good = true → c = true) → InvT good full (stU bs e).2.1 (stU bs e).2.2 c := by
  refine ⟨_, rfl, ?_⟩
  rcases h with ⟨hg, rfl, rfl, -⟩ | ⟨hg, h1 | ⟨h1, n, h2, h3⟩⟩
  · rw [stU_0, read_leb hm]
    exact ⟨fun _ => rfl, fun c hc => Or.inl ⟨hg, rfl, rfl, hc hg⟩⟩
  · subst h1
    rw [stU_15]
    exact ⟨fun k => (by rw [hg] at k; cases k), fun c _ => Or.inr ⟨hg, Or.inl rfl⟩⟩
  · subst h1
    rw [stU_0]
    refine ⟨fun k => (by rw [hg] at k; cases k), fun c _ => ?_⟩
    by_cases hn : n < (lebL m).length
    · rw [h3, take_lt hn, read_short hm hn]
      exact Or.inr ⟨hg, Or.inl rfl⟩
    · rw [h3, take_app (by omega), read_leb hm]
      rw [List.length_append] at h2
      exact Or.inr ⟨hg, Or.inr ⟨rfl, n - (lebL m).length, by omega, rfl⟩⟩
/-- A text more. -/
theorem InvT.txt {good : Bool} {full bs : List Int} {e : Int} {ok : Bool} {s : ByteArray} (hs : s.size ≤ 300) (h : InvT good (txtL s ++ full) bs e ok) :
    ∃ t, bytS (stT bs e 300).1 = t ∧ (good = true → t = s) ∧ ∀ c : Bool, (good = true → c = true) → InvT good full (stT bs e 300).2.1 (stT bs e 300).2.2 c := by
  refine ⟨_, rfl, ?_⟩
  have hl := strB_len s
  have hm : s.size < 18446744073709551616 := by omega
  have key : ∀ rest, stC (lebL s.size ++ rest) 0 300 = ((s.size : Int), rest, 0) := fun rest => by
    unfold stC
    rw [read_leb hm, if_neg (by rintro ⟨-, -, h⟩; have h : max 300 0 < (s.size : Int) := h; omega), stU_0, read_leb hm]
  have key2 : ∀ rest, stT (lebL s.size ++ rest) 0 300 = if (rest.length : Int) < (s.size : Int) then ([], lebL s.size ++ rest, 15) else (rest.take s.size, rest.drop s.size, 0) := fun rest => by
    unfold stT
    rw [key]
    rfl
  unfold txtL at h
  rcases h with ⟨hg, rfl, rfl, -⟩ | ⟨hg, h1 | ⟨h1, n, h2, h3⟩⟩
  · rw [List.append_assoc, key2, if_neg (by rw [List.length_append, hl]; omega)]
    have e1 : (strB s ++ full).take s.size = strB s := by rw [← hl]; exact List.take_left
    have e2 : (strB s ++ full).drop s.size = full := by rw [← hl]; exact List.drop_left
    rw [e1, e2]
    exact ⟨fun _ => bytS_strB s, fun c hc => Or.inl ⟨hg, rfl, rfl, hc hg⟩⟩
  · subst h1
    have e1 : stT bs 15 300 = ([], bs, 15) := by
      have e2 : stC bs 15 300 = (0, bs, 15) := by unfold stC; rw [if_neg (fun h => absurd h.1 (by decide)), stU_15]
      unfold stT
      rw [e2]; rfl
    rw [e1]
    exact ⟨fun k => (by rw [hg] at k; cases k), fun c _ => Or.inr ⟨hg, Or.inl rfl⟩⟩
  · subst h1
    refine ⟨fun k => (by rw [hg] at k; cases k), fun c _ => ?_⟩
    rw [List.append_assoc] at h3
    by_cases hn : n < (lebL s.size).length
    · rw [h3, take_lt hn]
      have e2 : stC ((lebL s.size).take n) 0 300 = (0, (lebL s.size).take n, 15) := by
        unfold stC
        rw [read_short hm hn, if_neg (by rintro ⟨-, h, -⟩; have h : (15 : Int) = 0 := h; omega), stU_0, read_short hm hn]
      have e1 : stT ((lebL s.size).take n) 0 300 = ([], (lebL s.size).take n, 15) := by
        unfold stT
        rw [e2]; rfl
      rw [e1]
      exact Or.inr ⟨hg, Or.inl rfl⟩
    · rw [h3, take_app (by omega), key2]
      rw [List.length_append, List.length_append, hl] at h2
      by_cases hk : n - (lebL s.size).length < s.size
      · rw [if_pos (by rw [List.length_take]; omega)]
        exact Or.inr ⟨hg, Or.inl rfl⟩
      · rw [if_neg (by rw [List.length_take, List.length_append, hl]; omega)]
        refine Or.inr ⟨hg, Or.inr ⟨rfl, n - (lebL s.size).length - s.size, by omega, ?_⟩⟩
        show ((strB s ++ full).take (n - (lebL s.size).length)).drop s.size = _
        rw [take_app (by omega), ← hl, List.drop_left]
end Go.Proofs.Ytcihojimojipiaa
