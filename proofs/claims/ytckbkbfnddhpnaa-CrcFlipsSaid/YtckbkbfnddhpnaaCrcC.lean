/- What law 7 asks of package crc, in one structure: to be filled on the landed code; the law's great and join, walked. -/
import Derived.Test.YtckbkbfnddhpnaaCrcB
namespace Go.Proofs.Ytckbkbfnddhpnaa
open Go.RowKit

/-- The slice value reads as the list of lists of bytes, below block B. -/
def LstL (w : World) (B : Nat) (v : Value) (ps : List (List Int)) : Prop :=
  ∃ (A : Option Addr) (c : Nat), v = .slice A ps.length c ∧ ps.length ≤ c ∧
    (0 < ps.length → ∃ ad, A = some ad ∧ ad.block < B ∧ ∀ j (h : j < ps.length), ∃ u, w.cell? (ad.add j) = some u ∧ Lst w B .u8 u ps[j])
section
variable {w w' : World} {B B' : Nat} {v : Value} {ps : List (List Int)}
theorem LstL.below (h : LstL w B v ps) (hb : Below B w w') : LstL w' B v ps := by
  obtain ⟨A, c, rfl, hc, hr⟩ := h
  refine ⟨A, c, rfl, hc, fun hn => ?_⟩
  obtain ⟨ad, e, hbk, hcell⟩ := hr hn
  refine ⟨ad, e, hbk, fun j hj => ?_⟩
  obtain ⟨u, h1, h2⟩ := hcell j hj
  exact ⟨u, (hb.cell (by rw [block_of_add]; exact hbk)).trans h1, h2.below hb⟩
theorem LstL.more (h : LstL w B v ps) (hB : B ≤ B') : LstL w B' v ps := by
  obtain ⟨A, c, rfl, hc, hr⟩ := h
  refine ⟨A, c, rfl, hc, fun hn => ?_⟩
  obtain ⟨ad, e, hb, hcell⟩ := hr hn
  exact ⟨ad, e, by omega, fun j hj => by obtain ⟨u, h1, h2⟩ := hcell j hj; exact ⟨u, h1, h2.more hB⟩⟩
theorem LstL.len (h : LstL w B v ps) : ∃ A c, v = .slice A ps.length c := by obtain ⟨A, c, h, _⟩ := h; exact ⟨A, c, h⟩
theorem LstL.at_ {A : Option Addr} {n c : Nat} (h : LstL w B (.slice A n c) ps) {j : Nat} (hj : j < ps.length) : ∃ ad u, A = some ad ∧ ad.block < B ∧ w.cell? (ad.add j) = some u ∧ Lst w B .u8 u ps[j] := by
  obtain ⟨A', c', e, _, hr⟩ := h
  obtain ⟨ad, rfl, hb, hc⟩ := hr (by omega)
  injection e with e
  obtain ⟨u, h1, h2⟩ := hc j hj
  exact ⟨ad, u, e, hb, h1, h2⟩
end
theorem LstL.nil (w : World) (B : Nat) : LstL w B (.slice none 0 0) [] := ⟨none, 0, rfl, Nat.le_refl _, fun h => absurd h (by simp)⟩
/-- One or two lists, written out as a slice of slices. -/
theorem LstL.lits (w : World) (t : TypeId) (vs : List Value) (ps : List (List Int)) (hl : vs.length = ps.length) (h : ∀ j (h1 : j < vs.length) (h2 : j < ps.length), Lst w w.heap.size .u8 vs[j] ps[j]) (cs : Array Value) (hcs : cs = vs.toArray) (g n : Nat) (hg : Hid (g = w.heap.size)) (hn : n = ps.length) :
    LstL (w.alloc (.cells cs t)) (w.alloc (.cells cs t)).heap.size (.slice (some ⟨g, 0, none⟩) n n) ps := by
  have hg := hg.out; subst hg; subst hn; subst hcs
  refine ⟨_, _, rfl, Nat.le_refl _, fun hn => ⟨_, rfl, by simp, fun j hj => ?_⟩⟩
  have e : (Addr.mk w.heap.size 0 none).add j = ⟨w.heap.size, j, none⟩ := by unfold Addr.add; split <;> simp_all
  refine ⟨vs[j]'(by omega), ?_, ((h j (by omega) hj).below (below_new w _)).more (below_new w _).size⟩
  rw [e, World.cell?_alloc_new]
  simp [show j < vs.length by omega]
def AllByte (ps : List (List Int)) : Prop := ∀ p ∈ ps, IsByte p
theorem flat_byte {ps : List (List Int)} (h : AllByte ps) : IsByte ps.flatten := fun c hc => by
  obtain ⟨p, hp, hcp⟩ := List.mem_flatten.1 hc
  exact h p hp c hcp

structure CrcC : Prop where
  sum : ∀ v ps w, LstL w w.heap.size v ps → AllByte ps → ps.length ≤ 1000000 → ps.flatten.length ≤ 1000000 → Calls Try.prog 12 #[v] w fun e w' => e = .returned (.int .u32 (crcI ps.flatten)) ∧ Below w.heap.size w w'
  seal_ : ∀ v ps w, LstL w w.heap.size v ps → AllByte ps → ps.length ≤ 1000000 → ps.flatten.length ≤ 1000000 → Calls Try.prog 15 #[v] w (Copied 5 .u8 w (sealI ps.flatten))
  open_ : ∀ v bs w, Lst w w.heap.size .u8 v bs → IsByte bs → bs.length ≤ 1000000 → Calls Try.prog 10 #[v] w fun e w' => ∃ u, e = .returned (.tuple #[u, .int .i64 (openI bs).2]) ∧ Lst w' w'.heap.size .u8 u (openI bs).1 ∧ Below w.heap.size w w'

/-! great and join -/
theorem flat_next {ps : List (List Int)} {k : Nat} (h : k < ps.length) : (ps.take (k + 1)).flatten = (ps.take k).flatten ++ ps[k] := by
  rw [List.take_succ_eq_append_getElem h, List.flatten_append]; simp
theorem flat_le {ps : List (List Int)} (k : Nat) : (ps.take k).flatten.length ≤ ps.flatten.length := by
  conv => rhs; rw [← List.take_append_drop k ps, List.flatten_append, List.length_append]
  omega
/-- Are parts more than are looked at? -/
def greatB (ps : List (List Int)) : Bool := decide (100 < ps.length ∨ 3000 < ps.flatten.length)

set_option maxRecDepth 100000 in
set_option maxHeartbeats 1000000 in
theorem great_any (v : Value) (ps : List (List Int)) (w : World) (hl : LstL w w.heap.size v ps) (hz : ∀ p ∈ ps, p.length ≤ 140737488355328) :
    Calls Try.prog 7 #[v] w fun e w' => e = .returned (.bool (greatB ps)) ∧ w = w' := by
  obtain ⟨A, c, rfl⟩ := hl.len
  by_cases hp : 100 < ps.length
  · have HE : Hid (greatB ps = true) := Lib.hid (decide_eq_true (Or.inl hp))
    have h1 : (100 : Int) < (ps.length : Int) := by omega
    clear hl
    go_enter Try.func7, Try.ntmps7
    go_wp2_with fail
    go_ret
    exact ⟨by rw [HE.out]; rfl, rfl⟩
  · have h1 : ¬ (100 : Int) < (ps.length : Int) := by omega
    have HL := Lib.hid hl
    have HZ := Lib.hid hz
    clear hl hz
    go_enter Try.func7, Try.ntmps7
    go_wp2_with fail
    go_loop [3, 4] (fun n i => ∃ k m : Nat, k ≤ ps.length ∧ i = .int .i64 k ∧ n = .int .i64 m ∧ m ≤ 3000 ∧ Hid (m = (ps.take k).flatten.length)) (fun _ i => ps.length - (intOf i).toNat)
    case atStart => exact ⟨0, 0, Nat.zero_le _, rfl, rfl, by decide, Lib.hid rfl⟩
    case round =>
      obtain ⟨k, m, hk, rfl, rfl, hm3, hm⟩ := hrel
      by_cases hlt : k < ps.length
      · obtain ⟨ad, u, rfl, hab, hcell, hu⟩ := HL.out.at_ hlt
        obtain ⟨Au, cu, rfl⟩ := hu.len
        have hpz := HZ.out _ (List.getElem_mem hlt)
        have HN : Hid (m + ps[k].length = (ps.take (k + 1)).flatten.length) := Lib.hid (by rw [flat_next hlt, List.length_append, ← hm.out])
        have i0 : (0 : Int) ≤ (k : Int) := by omega
        have i1 : (k : Int) < (ps.length : Int) := by omega
        clear hu hab hm
        generalize ps[k].length = q at *
        by_cases hbig : 3000 < m + q
        · have HE : Hid (greatB ps = true) := Lib.hid (decide_eq_true (Or.inr (Nat.lt_of_lt_of_le hbig (by rw [HN.out]; exact flat_le _))))
          have h2 : (3000 : Int) < (m : Int) + (q : Int) := by omega
          go_wp2_with fail
          go_ret
          exact ⟨by rw [HE.out]; rfl, rfl⟩
        · have h2 : ¬ (3000 : Int) < (m : Int) + (q : Int) := by omega
          go_wp2_with fail
          go_round
          case rel => exact ⟨k + 1, m + q, hlt, by go_num, by go_num, by omega, HN⟩
          case measure => simp [intOf]; omega
      · obtain rfl : k = ps.length := by omega
        have HE : Hid (greatB ps = false) := Lib.hid (decide_eq_false (fun h => h.elim hp (fun h => by have h2 := hm.out; rw [List.take_length] at h2; omega)))
        go_wp2_with fail
        go_ret
        exact ⟨by rw [HE.out]; rfl, rfl⟩

set_option maxRecDepth 100000 in
set_option maxHeartbeats 1000000 in
theorem join_any (v : Value) (ps : List (List Int)) (w : World) (hl : LstL w w.heap.size v ps) (hp : ps.length ≤ 1000000) (hz : ps.flatten.length ≤ 1000000) :
    Calls Try.prog 8 #[v] w (Copied 5 .u8 w ps.flatten) := by
  obtain ⟨i0, hi, hz0, hz1, hz2⟩ := info_parts byte_info7
  obtain ⟨A, c, rfl⟩ := hl.len
  have HL := Lib.hid hl
  have hO : Owned 5 .u8 (w.alloc (.cells #[] 5)) w.heap.size (.slice (some ⟨w.heap.size, 0, none⟩) 0 0) (ps.take 0).flatten := owned_empty _ w _ (Nat.le_refl _)
  have hB := below_new w (.cells #[] 5)
  clear hl
  go_enter Try.func8, Try.ntmps8
  go_wp2_with fail
  generalize w.alloc (.cells #[] 5) = W at *
  go_loopw [3, 4] (fun o i wr => ∃ k : Nat, k ≤ ps.length ∧ i = .int .i64 k ∧ Owned 5 .u8 wr w.heap.size o (ps.take k).flatten ∧ Below w.heap.size w wr) (fun _ i _ => ps.length - (intOf i).toNat)
  case atStart => exact ⟨0, Nat.zero_le _, rfl, hO, hB⟩
  case round =>
    clear hO hB
    obtain ⟨k, hk, rfl, hO, hB⟩ := hrel
    by_cases hlt : k < ps.length
    · obtain ⟨ad, u, rfl, hab, hcell, hu⟩ := HL.out.at_ hlt
      have c1 : wr.cell? (ad.add k) = some u := (hB.cell (by rw [block_of_add]; exact hab)).trans hcell
      obtain ⟨Au, cu, rfl⟩ := hu.len
      have HSrc := Lib.hid (hu.src (w' := wr) fun _ hp => hB.cell hp)
      have HN := Lib.hid (flat_next hlt)
      have hlen : (ps.take k).flatten.length + ps[k].length ≤ 1000000 := by
        have := flat_le (ps := ps) (k + 1)
        rw [HN.out, List.length_append] at this
        omega
      have j0 : (0 : Int) ≤ (k : Int) := by omega
      have j1 : (k : Int) < (ps.length : Int) := by omega
      clear hu hcell
      generalize ps[k] = p at *
      generalize (ps.take k).flatten = xs at *
      go_wp2_with (at_builtin; go_must (refine wpList_append_src _ rfl (.tmp 12) (.tmp 16) 23 rfl w.heap.size 5 i0 (.int .u8 0) Try.underlying23 hi hz0 hz1 1 hz2 rfl _ xs.length (xs.map (Value.int .u8)) rfl hO Au cu _ rfl HSrc.out (by unfold maxLen; omega) (by omega) hB.size ?_); intro v2 w2 hown2 hgrow2)
      obtain ⟨hO2, hbj⟩ := hO.join hB.size hown2 hgrow2
      rw [← HN.out] at hO2
      have hB2 := hB.trans hbj
      clear hown2 hgrow2 hbj hO hB c1
      go_roundw
      case rel => exact ⟨k + 1, hlt, by go_num, hO2, hB2⟩
      case measure => simp [intOf]; omega
    · obtain rfl : k = ps.length := by omega
      rw [List.take_length] at hO
      go_wp2_with fail
      go_ret
      exact ⟨_, rfl, hO, hB⟩
end Go.Proofs.Ytckbkbfnddhpnaa
