/- Sixteen bytes and the number of two words: what the bytes of a number come to, and back. No condition. -/
import Derived.Test.YtedojpblfmkjeaaDoorBytesW
namespace Go.Proofs.YtedojpblfmkjeaaDoor
open Go.RowKit

/-- The bytes of a number. -/
def bytesI (a : Int) : List Int := rowK (a / 18446744073709551616) (a % 18446744073709551616) 8
theorem rowK_all (h l : Int) : rowK h l 8 = [h / 72057594037927936 % 256, h / 281474976710656 % 256, h / 1099511627776 % 256, h / 4294967296 % 256, h / 16777216 % 256, h / 65536 % 256, h / 256 % 256, h / 1 % 256, l / 72057594037927936 % 256, l / 281474976710656 % 256, l / 1099511627776 % 256, l / 4294967296 % 256, l / 16777216 % 256, l / 65536 % 256, l / 256 % 256, l / 1 % 256] := by
  simp [rowK, List.range, List.range.loop]
theorem bytesI_len (a : Int) : (bytesI a).length = 16 := rowK_len _ _ _
theorem bytesI_byte (a : Int) : ∀ z ∈ bytesI a, 0 ≤ z ∧ z ≤ 255 := by
  intro z hz
  rw [bytesI, rowK_all] at hz
  simp only [List.mem_cons, List.not_mem_nil, or_false] at hz
  omega
theorem half_val (h : Int) : valB [h / 72057594037927936 % 256, h / 281474976710656 % 256, h / 1099511627776 % 256, h / 4294967296 % 256, h / 16777216 % 256, h / 65536 % 256, h / 256 % 256, h / 1 % 256] = h % 18446744073709551616 := by
  simp only [valB, List.foldl_cons, List.foldl_nil]
  omega
theorem bytesI_val (a : Int) : valB (bytesI a) = a % 340282366920938463463374607431768211456 := by
  have e : bytesI a = [(a / 18446744073709551616) / 72057594037927936 % 256, (a / 18446744073709551616) / 281474976710656 % 256, (a / 18446744073709551616) / 1099511627776 % 256, (a / 18446744073709551616) / 4294967296 % 256, (a / 18446744073709551616) / 16777216 % 256, (a / 18446744073709551616) / 65536 % 256, (a / 18446744073709551616) / 256 % 256, (a / 18446744073709551616) / 1 % 256] ++ [(a % 18446744073709551616) / 72057594037927936 % 256, (a % 18446744073709551616) / 281474976710656 % 256, (a % 18446744073709551616) / 1099511627776 % 256, (a % 18446744073709551616) / 4294967296 % 256, (a % 18446744073709551616) / 16777216 % 256, (a % 18446744073709551616) / 65536 % 256, (a % 18446744073709551616) / 256 % 256, (a % 18446744073709551616) / 1 % 256] := by
    rw [bytesI, rowK_all]; rfl
  rw [e, valB_append, half_val, half_val]
  show a / 18446744073709551616 % 18446744073709551616 * 256 ^ 8 + a % 18446744073709551616 % 18446744073709551616 = _
  rw [show (256 : Int) ^ 8 = 18446744073709551616 by decide]
  omega
theorem bytesI_back {a : Int} (ha : Two a) : around (valB (bytesI a)) = a := by
  rw [two_bd] at ha
  rw [bytesI_val]
  unfold around
  omega
theorem bytesI_order {a b : Int} (ha : Two a) (hb : Two b) (hs : (a / 18446744073709551616 < 0) ↔ (b / 18446744073709551616 < 0)) : ordI (valB (bytesI a)) (valB (bytesI b)) = ordI a b := by
  rw [two_bd] at ha hb
  rw [bytesI_val, bytesI_val]
  have e : ∀ x y u v : Int, (x < y ↔ u < v) → (y < x ↔ v < u) → ordI x y = ordI u v := fun x y u v h k => by
    unfold ordI
    simp only [h, k]
  apply e <;> omega
theorem bytesI_head {a : Int} (ha : Two a) : (127 < (bytesI a)[0]'(by rw [bytesI_len]; decide)) ↔ a / 18446744073709551616 < 0 := by
  have e : (bytesI a)[0]'(by rw [bytesI_len]; decide) = (a / 18446744073709551616) / 72057594037927936 % 256 := by
    simp only [bytesI, rowK_all]; rfl
  rw [e]
  unfold Two Fits at ha
  omega
theorem ordI_more {p q x y : Int} (x0 : 0 ≤ x) (x1 : x ≤ 255) (y0 : 0 ≤ y) (y1 : y ≤ 255) : ordI (p * 256 + x) (q * 256 + y) = if ordI p q = 0 then ordI x y else ordI p q := by
  unfold ordI
  by_cases h1 : p < q
  · rw [if_pos h1, if_neg (show ¬ (-1 : Int) = 0 by decide), if_pos (show p * 256 + x < q * 256 + y by omega)]
  · by_cases h2 : q < p
    · rw [if_neg h1, if_pos h2, if_neg (show ¬ (1 : Int) = 0 by decide), if_neg (show ¬ p * 256 + x < q * 256 + y by omega), if_pos (show q * 256 + y < p * 256 + x by omega)]
    · rw [if_neg h1, if_neg h2, if_pos rfl]
      have e : p = q := by omega
      subst e
      by_cases h3 : x < y
      · rw [if_pos h3, if_pos (show p * 256 + x < p * 256 + y by omega)]
      · rw [if_neg h3, if_neg (show ¬ p * 256 + x < p * 256 + y by omega)]
        by_cases h4 : y < x
        · rw [if_pos h4, if_pos (show p * 256 + y < p * 256 + x by omega)]
        · rw [if_neg h4, if_neg (show ¬ p * 256 + y < p * 256 + x by omega)]
/-- Rows of bytes are in the order of their beginnings, where these differ. -/
theorem ordB_more {xs ys : List Int} (hx : ∀ z ∈ xs, 0 ≤ z ∧ z ≤ 255) (hy : ∀ z ∈ ys, 0 ≤ z ∧ z ≤ 255) (hl : xs.length = ys.length) {k : Nat} (hne : ordI (valB (xs.take k)) (valB (ys.take k)) ≠ 0) :
    ∀ m : Nat, k + m ≤ xs.length → ordI (valB (xs.take (k + m))) (valB (ys.take (k + m))) = ordI (valB (xs.take k)) (valB (ys.take k))
  | 0, _ => rfl
  | m + 1, h => by
    have ih := ordB_more hx hy hl hne m (by omega)
    rw [show k + (m + 1) = (k + m) + 1 by omega, valB_take (by omega), valB_take (by omega),
      ordI_more (hx _ (List.getElem_mem _)).1 (hx _ (List.getElem_mem _)).2 (hy _ (List.getElem_mem _)).1 (hy _ (List.getElem_mem _)).2, ih, if_neg hne]
theorem back_bytesI {zs : List Int} (hn : zs.length = 16) (hz : ∀ z ∈ zs, 0 ≤ z ∧ z ≤ 255) : bytesI (around (valB zs)) = zs := by
  obtain ⟨e1, e2⟩ := back_words hn hz
  rw [bytesI, ← e1, ← e2, rowK_all]
  rcases zs with _ | ⟨a0, zs⟩
  · simp at hn
  rcases zs with _ | ⟨a1, zs⟩
  · simp at hn
  rcases zs with _ | ⟨a2, zs⟩
  · simp at hn
  rcases zs with _ | ⟨a3, zs⟩
  · simp at hn
  rcases zs with _ | ⟨a4, zs⟩
  · simp at hn
  rcases zs with _ | ⟨a5, zs⟩
  · simp at hn
  rcases zs with _ | ⟨a6, zs⟩
  · simp at hn
  rcases zs with _ | ⟨a7, zs⟩
  · simp at hn
  rcases zs with _ | ⟨a8, zs⟩
  · simp at hn
  rcases zs with _ | ⟨a9, zs⟩
  · simp at hn
  rcases zs with _ | ⟨a10, zs⟩
  · simp at hn
  rcases zs with _ | ⟨a11, zs⟩
  · simp at hn
  rcases zs with _ | ⟨a12, zs⟩
  · simp at hn
  rcases zs with _ | ⟨a13, zs⟩
  · simp at hn
  rcases zs with _ | ⟨a14, zs⟩
  · simp at hn
  rcases zs with _ | ⟨a15, zs⟩
  · simp at hn
  rcases zs with _ | ⟨a16, zs⟩
  · simp only [List.mem_cons, List.not_mem_nil, or_false, forall_eq_or_imp, forall_eq] at hz
    obtain ⟨h0, h1, h2, h3, h4, h5, h6, h7, h8, h9, h10, h11, h12, h13, h14, h15⟩ := hz
    show [wrap64 (valB [a0, a1, a2, a3, a4, a5, a6, a7]) / 72057594037927936 % 256, wrap64 (valB [a0, a1, a2, a3, a4, a5, a6, a7]) / 281474976710656 % 256, wrap64 (valB [a0, a1, a2, a3, a4, a5, a6, a7]) / 1099511627776 % 256, wrap64 (valB [a0, a1, a2, a3, a4, a5, a6, a7]) / 4294967296 % 256, wrap64 (valB [a0, a1, a2, a3, a4, a5, a6, a7]) / 16777216 % 256, wrap64 (valB [a0, a1, a2, a3, a4, a5, a6, a7]) / 65536 % 256, wrap64 (valB [a0, a1, a2, a3, a4, a5, a6, a7]) / 256 % 256, wrap64 (valB [a0, a1, a2, a3, a4, a5, a6, a7]) / 1 % 256, valB [a8, a9, a10, a11, a12, a13, a14, a15] / 72057594037927936 % 256, valB [a8, a9, a10, a11, a12, a13, a14, a15] / 281474976710656 % 256, valB [a8, a9, a10, a11, a12, a13, a14, a15] / 1099511627776 % 256, valB [a8, a9, a10, a11, a12, a13, a14, a15] / 4294967296 % 256, valB [a8, a9, a10, a11, a12, a13, a14, a15] / 16777216 % 256, valB [a8, a9, a10, a11, a12, a13, a14, a15] / 65536 % 256, valB [a8, a9, a10, a11, a12, a13, a14, a15] / 256 % 256, valB [a8, a9, a10, a11, a12, a13, a14, a15] / 1 % 256] = _
    have v1 : valB [a0, a1, a2, a3, a4, a5, a6, a7] = (((((((0 * 256 + a0) * 256 + a1) * 256 + a2) * 256 + a3) * 256 + a4) * 256 + a5) * 256 + a6) * 256 + a7 := rfl
    have v2 : valB [a8, a9, a10, a11, a12, a13, a14, a15] = (((((((0 * 256 + a8) * 256 + a9) * 256 + a10) * 256 + a11) * 256 + a12) * 256 + a13) * 256 + a14) * 256 + a15 := rfl
    rw [v1, v2]
    clear v1 v2 e1 e2
    unfold wrap64
    congr 1
    · omega
    congr 1
    · omega
    congr 1
    · omega
    congr 1
    · omega
    congr 1
    · omega
    congr 1
    · omega
    congr 1
    · omega
    congr 1
    · omega
    congr 1
    · omega
    congr 1
    · omega
    congr 1
    · omega
    congr 1
    · omega
    congr 1
    · omega
    congr 1
    · omega
    congr 1
    · omega
    congr 1
    omega
  · simp at hn
end Go.Proofs.YtedojpblfmkjeaaDoor
