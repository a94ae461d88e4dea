/- Whole numbers with a sign, walked: how one is made, of a word, of a long; the other sign. -/
import Derived.Test.YtmafkknnekkcdaaRefB
namespace Go.Proofs.Ytmafkknnekkcdaa
open Go.RowKit

/-- A whole number in memory: its sign and its limbs. -/
def NumV (w : World) (r : Value) (x : Int) : Prop := ∃ v, r = .agg #[.bool (decide (x < 0)), v] ∧ NatV w v (mag x)
theorem NumV.below {w w' : World} {r : Value} {x : Int} (h : NumV w r x) (hb : Below w.heap.size w w') : NumV w' r x := by
  obtain ⟨v, e, hv⟩ := h
  exact ⟨v, e, hv.below hb⟩
/-- What a call answers that makes a number with a sign: it, in memory that was not there. -/
def GivesN (w : World) (x : Int) (e : Ending) (w' : World) : Prop := ∃ r, e = .returned r ∧ NumV w' r x ∧ Below w.heap.size w w'
theorem NumV.mk {w : World} {v : Value} {neg : Bool} {m : Int} {b : Bool} (h : NatV w v m) (hb : b = decide (sided neg m < 0)) : NumV w (.agg #[.bool b, v]) (sided neg m) := by
  have hm := h.nonneg
  have e : mag (sided neg m) = m := by
    unfold mag sided
    cases neg <;> simp <;> omega
  exact ⟨v, by rw [hb], by rw [e]; exact h⟩
/-- A number with a sign is stored into a fresh cell of its type. -/
theorem NumV.stored {w w1 : World} {x : Int} {b : Bool} {A : Option Addr} {n c : Nat} {B B0 : Nat} (h : NumV w1 (.agg #[.bool b, .slice A n c]) x) (hb : Below B0 w w1) (hB : B0 ≤ B)
    (h0 : ∃ b0, w1.cell? ⟨B, 0, none⟩ = some (.bool b0)) (h1 : ∃ A0 n0 c0, w1.cell? ⟨B, 1, none⟩ = some (.slice A0 n0 c0)) :
    NumV ((w1.setCell ⟨B, 0, none⟩ (.bool b)).setCell ⟨B, 1, none⟩ (.slice A n c)) (.agg #[.bool b, .slice A n c]) x ∧ Below B0 w ((w1.setCell ⟨B, 0, none⟩ (.bool b)).setCell ⟨B, 1, none⟩ (.slice A n c)) := by
  obtain ⟨v, e, hv⟩ := h
  obtain ⟨b0, h0⟩ := h0
  obtain ⟨A0, n0, c0, h1⟩ := h1
  have h1' : (w1.setCell ⟨B, 0, none⟩ (.bool b)).cell? ⟨B, 1, none⟩ = some (.slice A0 n0 c0) := by
    rw [World.cell?_setCell_other w1 ⟨B, 0, none⟩ ⟨B, 1, none⟩ (.bool b) (by simp)]; exact h1
  have hv2 := (hv.store h0 (by simp) (.bool b)).store h1' (by simp) (.slice A n c)
  refine ⟨⟨v, e, ?_⟩, (hb.setCell hB _).setCell hB _⟩
  show NatB _ _ _ _
  rw [World.size_setCell, World.size_setCell]
  exact hv2
theorem below_new1 (w : World) (o o2 : Obj) : Below (w.heap.size + 1) (w.alloc o) ((w.alloc o).alloc o2) := by
  have h := below_new (w.alloc o) o2
  rwa [World.size_alloc] at h
theorem OwnL.empty1 (w : World) (o : Obj) : OwnL ((w.alloc o).alloc (.cells #[] 3)) (w.heap.size + 1) (.slice (some ⟨w.heap.size + 1, 0, none⟩) 0 0) [] := by
  have h := OwnL.empty (w.alloc o) (w.heap.size + 1) (by simp)
  rwa [World.size_alloc] at h
theorem below_of_same {w w' : World} (h : w = w') : Below w.heap.size w w' := by subst h; exact Below.refl _ _

/-- A number's memory, where two worlds hold the same below a block. -/
theorem NatB.move {w w1 w2 : World} {B : Nat} {v : Value} {m : Int} (h : NatB w1 B v m) (h1 : Below B w w1) (h2 : Below B w w2) (hB : B ≤ w2.heap.size) : NatV w2 v m :=
  h.keep (fun _ hp => (h2.cell hp).trans (h1.cell hp).symm) hB

set_option maxRecDepth 100000 in
set_option maxHeartbeats 400000 in
theorem made_any (neg : Bool) (v : Value) (xs : List Int) (w : World) (h : RowV w v xs) (hn : xs.length ≤ 1000000) :
    Calls Try.prog 34 #[.bool neg, v] w (GivesN w (sided neg (val xs))) := by
  have hx := h.2.bd.1
  have ct := trim_any v xs (w.alloc (.cells #[.bool false, .slice none 0 0] 50)) w.heap.size (h.keep (fun _ hp => (below_new _ _).cell hp) (Nat.le_refl _)) hn
  generalize val xs = m at *
  have CT := Lib.hid ct
  clear ct h hn
  go_enter Try.func34, Try.ntmps34
  go_wp2_with fail
  refine (CT.out).mono ?_; rintro e w' ⟨r, rfl, hr, rfl⟩
  have HR := Lib.hid hr
  obtain ⟨ys, hy, hyn, hv⟩ := hr
  have hz := hyn.zero hy.2
  obtain ⟨A, c, rfl⟩ := hy.1.len
  rw [hv] at hz
  by_cases h0 : ys = []
  · have hm := hz.2 h0
    subst h0
    clear hz hyn hy hv
    cases neg
    all_goals
      go_wp2_with fail
      exact bodyPost_ret (v := .agg #[.bool false, .slice A 0 c]) (by simp [results, Try.results34, go_sem]) rfl
        ⟨_, rfl, NumV.mk (HR.out.move (below_new _ _) (below_new _ _) (by simp)) (by simp [sided, hm]), below_new _ _⟩
  · have hm : m ≠ 0 := fun k => h0 (hz.1 k)
    have hl : 0 < ys.length := List.length_pos_iff.2 h0
    clear hz hyn hy h0 hv
    cases neg
    · go_wp2_with fail
      exact bodyPost_ret (v := .agg #[.bool false, .slice A ys.length c]) (by simp [results, Try.results34, go_sem]) rfl
        ⟨_, rfl, NumV.mk (HR.out.move (below_new _ _) (below_new _ _) (by simp)) (by simp [sided]; omega), below_new _ _⟩
    · go_wp2_with fail
      exact bodyPost_ret (v := .agg #[.bool true, .slice A ys.length c]) (by simp [results, Try.results34, go_sem]) rfl
        ⟨_, rfl, NumV.mk (HR.out.move (below_new _ _) (below_new _ _) (by simp)) (by simp [sided]; omega), below_new _ _⟩

/-- What is so of a word's limbs behind k rounds. -/
structure Cutting (V : Int) (k : Nat) (zs : List Int) (C : Int) : Prop where
  len : zs.length = k
  digs : Digs zs
  c0 : 0 ≤ C
  c1 : C ≤ V
  eq : val zs + C * 65536 ^ k = V
theorem Cutting.step {V : Int} {zs : List Int} {k : Nat} {C : Int} (h : Cutting V k zs C) : Cutting V (k + 1) (zs ++ [C % 65536]) (C / 65536) := by
  obtain ⟨len, digs, c0, c1, eq⟩ := h
  refine ⟨by simp [len], digs.snoc (by omega) (by omega), by omega, by omega, ?_⟩
  rw [val_snoc, len, pow_succ']
  generalize (65536 : Int) ^ k = P at *
  have e := Int.mul_ediv_add_emod C 65536
  have e2 : C / 65536 * (65536 * P) = 65536 * (C / 65536) * P := by rw [← Int.mul_assoc, Int.mul_comm _ 65536]
  rw [e2, Int.add_assoc, ← Int.add_mul, Int.add_comm (C % 65536), e]; exact eq
theorem Cutting.ends {V : Int} {zs : List Int} {C : Int} (h : Cutting V 4 zs C) (hV : V ≤ 18446744073709551615) : val zs = V := by
  obtain ⟨len, digs, c0, c1, eq⟩ := h
  have d := digs.bd
  have p : (65536 : Int) ^ 4 = 18446744073709551616 := by decide
  rw [p] at eq
  omega
theorem bcell {W w1 : World} {B : Nat} (hb : Below B W w1) : (∀ b o, b < B → w1.cell? ⟨b, o, none⟩ = W.cell? ⟨b, o, none⟩) ∧ (∀ b o, b < B → w1.frozen? ⟨b, o, none⟩ = W.frozen? ⟨b, o, none⟩) :=
  ⟨fun b o h => hb.cell (p := ⟨b, o, none⟩) h, fun b o h => hb.frozen (p := ⟨b, o, none⟩) h⟩

set_option maxRecDepth 100000 in
set_option maxHeartbeats 1000000 in
theorem whole_any (V : Int) (w : World) (h0 : 0 ≤ V) (h1 : V ≤ 18446744073709551615) :
    Calls Try.prog 38 #[.int .u64 V] w (GivesN w V) := by
  obtain ⟨i0, hi, hz0, hz1, hz2⟩ := info_parts int_info
  go_enter Try.func38, Try.ntmps38
  go_wp2_with fail
  go_loopw [0, 3, 4] (fun c v i wr => ∃ (k : Nat) (zs : List Int) (C : Int), k ≤ 4 ∧ i = .int .i64 k ∧ c = .int .u64 C ∧ OwnL wr (w.heap.size + 1) v zs ∧ Cutting V k zs C ∧ Below (w.heap.size + 1) (w.alloc (.cells #[.bool false, .slice none 0 0] 50)) wr)
    (fun _ _ i _ => 4 - (intOf i).toNat)
  case atStart => exact ⟨0, [], V, by omega, rfl, rfl, OwnL.empty1 w _, ⟨rfl, Digs.nil, h0, Int.le_refl _, by simp [val, sumD]⟩, below_new1 _ _ _⟩
  case round =>
    obtain ⟨k, zs, C, hk, rfl, rfl, hown, hcut, hbel⟩ := hrel
    have c0 := hcut.c0
    have c1 := hcut.c1
    have hlen := hcut.len
    have hsz := hbel.size
    rw [World.size_alloc] at hsz
    by_cases hlt : k < 4
    · have hst := Lib.hid hcut.step
      have HL := Lib.hid hlen
      clear hlen hcut
      go_wp2_with (at_builtin; go_must (refine wpList_append_own _ rfl (.tmp 10) (.tmp 14) 48 rfl (w.heap.size + 1) 3 i0 (.int .i64 0) 1 8 Try.underlying48 hi hz0 hz1 hz2 rfl (by decide) _ zs.length (zs.map (Value.int .i64)) rfl (hown.alloc _) ⟨wr.heap.size, 0, none⟩ 1 1 [.int .i64 (C % 65536)] rfl rfl (one_cell _ _ _) (one_int _) (by have := HL.out; unfold maxLen; omega) (by have := HL.out; omega) (by simp; omega) ?_); intro v1 w1 hown1 hgrow1 _)
      have hN := hown.grow hbel hsz hown1 hgrow1
      clear hown1 hgrow1 hown hbel
      go_wp2_with fail
      go_roundw
      case rel => exact ⟨k + 1, _, _, by omega, by go_num, rfl, hN.1, hst.out, hN.2⟩
      case measure => simp [intOf]; omega
    · obtain rfl : k = 4 := by omega
      have hv := hcut.ends h1
      have cm := made_any false _ zs wr (hown.row hcut.digs) (by omega)
      rw [hv, show sided false V = V from rfl] at cm
      have CM := Lib.hid cm
      clear cm hv hcut
      go_wp2_with fail
      refine (CM.out).mono ?_; rintro e w1 ⟨r, rfl, hr, hb1⟩
      have HR := Lib.hid hr
      obtain ⟨u, rfl, hu⟩ := hr
      obtain ⟨A, n, c, rfl⟩ := hu.form
      clear hu
      have hb2 := hbel.trans (hb1.mono hsz)
      obtain ⟨hc, hf⟩ := bcell hb2
      have hs2 := hb1.size
      go_wp2_with fail
      have hS := NumV.stored HR.out ((below_new w _).trans (hb2.mono (Nat.le_succ _))) (Nat.le_refl _) ⟨false, by rw [hc _ _ (Nat.lt_succ_self _)]; simp [World.cell?_alloc_new]⟩ ⟨none, 0, 0, by rw [hc _ _ (Nat.lt_succ_self _)]; simp [World.cell?_alloc_new]⟩
      exact bodyPost_ret (v := .agg #[.bool (decide (V < 0)), .slice A n c]) (by simp [results, Try.results38, go_sem, hc]) rfl ⟨_, rfl, hS⟩
end Go.Proofs.Ytmafkknnekkcdaa
