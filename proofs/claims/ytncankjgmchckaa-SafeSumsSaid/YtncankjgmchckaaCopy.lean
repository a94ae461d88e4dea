/- A list that is appended to a row of the call's own, nil, empty or not; a copy of a list; two lists held against each other. -/
import Derived.Test.YtncankjgmchckaaRows
import Derived.Test.YtncankjgmchckaaSum
import Derived.Maps.AppendAt
import Derived.Deep.RegionLaw
namespace Go.Proofs.Ytncankjgmchckaa
open Go.RowKit

/-- What is appended: a slice that reads as a list. -/
def Src (w : World) (A : Option Addr) (zs : List Int) : Prop := 0 < zs.length → ∃ ad, A = some ad ∧ ∀ j (h : j < zs.length), w.cell? (ad.add j) = some (.int .i64 zs[j])
section
variable {P : Program} (w : World)
theorem run_append_src (base : Nat) (t ty e : TypeId) (i : TypeInfo) (z : Value) (ht : P.underlying t = some (.slice e)) (hi : P.info? e = some i) (hz : i.zero = some z) (hsize : i.size = 1) (hby : i.bytes = 8) (hzs : z.cells.size = 1)
    (v : Value) (n : Nat) (xs : List Value) (hown : w.ownsRow base e 1 v n xs) (A : Option Addr) (c : Nat) (zs : List Int) (hs : Src w A zs)
    (h63 : n + zs.length ≤ maxLen) (hbytes : (n + zs.length) * 8 ≤ 140737488355328) (hbase : base ≤ w.heap.size) :
    ∃ v' w', (Builtin.append_ #[t, t] ty #[v, .slice A zs.length c]).run P w = .ok v' w' ∧ w'.ownsRow base e 1 v' (n + zs.length) (xs ++ zs.map (Value.int .i64)) ∧ w.grownBy w' v.ownBlock := by
  rcases A with _ | ad
  · have h0 : zs = [] := by
      rcases Nat.eq_zero_or_pos zs.length with k | k
      · exact List.eq_nil_of_length_eq_zero k
      · obtain ⟨_, e, _⟩ := hs k; cases e
    subst h0
    refine ⟨v, w, ?_, by simpa using hown, World.grownBy.refl w _⟩
    rcases hown.2 with ⟨rfl, rfl⟩ | ⟨g, cap, cur, rfl, _, _, hnc, _⟩
    · simp [Builtin.append_, run_underlying ht, sizeOf, typeInfo, hi, Builtin.lenOf, Builtin.firstCells]
    · simp [Builtin.append_, run_underlying ht, sizeOf, typeInfo, hi, Builtin.lenOf, Builtin.firstCells, hnc, storeCells]
  · have hcells : ∀ j u, (zs.map (Value.int .i64))[j]? = some u → w.cell? (ad.add j) = some u := by
      intro j u hu
      have hj : j < zs.length := by
        rcases Nat.lt_or_ge j zs.length with k | k
        · exact k
        · rw [List.getElem?_eq_none (by simpa using k)] at hu; cases hu
      obtain ⟨ad', e, hc⟩ := hs (by omega)
      injection e with e
      subst e
      rw [hc j hj]
      simpa [hj] using hu
    have h1 : ∀ u ∈ zs.map (Value.int .i64), u.oneCell' = true := by
      intro u hu
      obtain ⟨x, _, rfl⟩ := List.mem_map.1 hu
      rfl
    obtain ⟨v', w', hrun, h2, h3, _, _⟩ := run_append_own_at (P := P) w base t ty e i z 1 8 ht hi hz hsize hby hzs (by decide) v n xs hown ad zs.length c (zs.map (Value.int .i64)) (by simp) hcells h1 h63 hbytes hbase
    exact ⟨v', w', hrun, h2, h3⟩
theorem wp_append_src {o : Oper} {a : Act} {K : Act → World → Prop} {Q : Exit → Act → World → Prop} (s x : Operand) (t : TypeId)
    (ho : o.op = .call { callee := .builtin .append, args := #[s, x], argTypes := #[t, t] })
    (base : Nat) (e : TypeId) (i : TypeInfo) (z : Value) (ht : P.underlying t = some (.slice e)) (hi : P.info? e = some i) (hz : i.zero = some z) (hsize : i.size = 1) (hby : i.bytes = 8) (hzs : z.cells.size = 1)
    (v : Value) (n : Nat) (xs : List Value) (hv : a.eval s = v) (hown : w.ownsRow base e 1 v n xs) (A : Option Addr) (c : Nat) (zs : List Int) (hx : a.eval x = .slice A zs.length c) (hs : Src w A zs)
    (h63 : n + zs.length ≤ maxLen) (hbytes : (n + zs.length) * 8 ≤ 140737488355328) (hbase : base ≤ w.heap.size)
    (h : ∀ v' w', w'.ownsRow base e 1 v' (n + zs.length) (xs ++ zs.map (Value.int .i64)) → w.grownBy w' v.ownBlock → K (a.put o.dst v') w') : o.wp P a w K Q := by
  obtain ⟨v', w', hrun, h2, h3⟩ := run_append_src (P := P) w base t o.type e i z ht hi hz hsize hby hzs v n xs hown A c zs hs h63 hbytes hbase
  unfold Oper.wp execOp
  simp only [ho, resolve, invoke, builtin, Sem.run_bind, Sem.run_pure, Result.andThen_ok, List.map_toArray, List.map_cons, List.map_nil, hv, hx, hrun]
  exact h v' w' h2 h3
theorem wpList_append_src {ops : Array Oper} {rest : List Oper} {o : Oper} {a : Act} {Q : Exit → Act → World → Prop} (hgd : o.guard = none) (s x : Operand) (t : TypeId)
    (ho : o.op = .call { callee := .builtin .append, args := #[s, x], argTypes := #[t, t] })
    (base : Nat) (e : TypeId) (i : TypeInfo) (z : Value) (ht : P.underlying t = some (.slice e)) (hi : P.info? e = some i) (hz : i.zero = some z) (hsize : i.size = 1) (hby : i.bytes = 8) (hzs : z.cells.size = 1)
    (v : Value) (n : Nat) (xs : List Value) (hv : a.eval s = v) (hown : w.ownsRow base e 1 v n xs) (A : Option Addr) (c : Nat) (zs : List Int) (hx : a.eval x = .slice A zs.length c) (hs : Src w A zs)
    (h63 : n + zs.length ≤ maxLen) (hbytes : (n + zs.length) * 8 ≤ 140737488355328) (hbase : base ≤ w.heap.size)
    (h : ∀ v' w', w'.ownsRow base e 1 v' (n + zs.length) (xs ++ zs.map (Value.int .i64)) → w.grownBy w' v.ownBlock → wpList P ops Q rest (a.put o.dst v') w') : wpList P ops Q (o :: rest) a w :=
  wpList_plain hgd fun _ hK => wp_append_src w s x t ho base e i z ht hi hz hsize hby hzs v n xs hv hown A c zs hx hs h63 hbytes hbase fun v' w' h2 h3 => hK _ _ (h v' w' h2 h3)
theorem step_append_src {ops : Array Oper} {o : Oper} {a : Act} {K : Act → World → Prop} {Q : Exit → Act → World → Prop} {E : Prop} (hgd : o.guard = none) (s x : Operand) (t : TypeId)
    (ho : o.op = .call { callee := .builtin .append, args := #[s, x], argTypes := #[t, t] })
    (base : Nat) (e : TypeId) (i : TypeInfo) (z : Value) (ht : P.underlying t = some (.slice e)) (hi : P.info? e = some i) (hz : i.zero = some z) (hsize : i.size = 1) (hby : i.bytes = 8) (hzs : z.cells.size = 1)
    (v : Value) (n : Nat) (xs : List Value) (hv : a.eval s = v) (hown : w.ownsRow base e 1 v n xs) (A : Option Addr) (c : Nat) (zs : List Int) (hx : a.eval x = .slice A zs.length c) (hs : Src w A zs)
    (h63 : n + zs.length ≤ maxLen) (hbytes : (n + zs.length) * 8 ≤ 140737488355328) (hbase : base ≤ w.heap.size)
    (h : ∀ v' w', w'.ownsRow base e 1 v' (n + zs.length) (xs ++ zs.map (Value.int .i64)) → w.grownBy w' v.ownBlock → K (a.put o.dst v') w') :
    if Region.wanted o (yielded ops a.tmps) = true then Oper.wp P o a w K Q else E := by
  rw [if_pos (by simp [Region.wanted, hgd])]
  exact wp_append_src w s x t ho base e i z ht hi hz hsize hby hzs v n xs hv hown A c zs hx hs h63 hbytes hbase h
end

theorem long_info : (Try.prog.info? 2).map (fun i => (i.zero, i.size, i.bytes)) = some (some (.int .i64 0), 1, 8) := by kernel_rfl
/-- A row of longs that the call itself made. -/
def OwnI (w : World) (B : Nat) (v : Value) (zs : List Int) : Prop := w.ownsRow B 2 1 v zs.length (zs.map (Value.int .i64))
theorem OwnI.lst {w : World} {B : Nat} {v : Value} {zs : List Int} (h : OwnI w B v zs) : Lst w w.heap.size .i64 v zs := by
  rcases h.2 with ⟨rfl, hn⟩ | ⟨g, cap, cur, rfl, hb, hh, hc, _⟩
  · have e : zs = [] := List.eq_nil_of_length_eq_zero hn
    subst e; exact Lst.nil _ _ _
  · exact Lst.of_own h hc
theorem OwnI.empty (w : World) (B : Nat) (hB : B ≤ w.heap.size) : w.ownsRow B 2 1 (.slice none 0 0) 0 [] ∧ (w.alloc (.cells #[] 2)).ownsRow B 2 1 (.slice (some ⟨w.heap.size, 0, none⟩) 0 0) 0 [] :=
  ⟨World.ownsRow_nil _ _ _ _, World.ownsRow_lit w #[] 0 hB (by simp [maxLen]) rfl⟩
theorem Lst.src {w w' : World} {B : Nat} {A : Option Addr} {n c : Nat} {zs : List Int} (h : Lst w B .i64 (.slice A n c) zs) (hk : ∀ p : Addr, p.block < B → w'.cell? p = w.cell? p) : Src w' A zs := by
  obtain ⟨A', c', e, _, hr⟩ := h
  injection e with e1 e2 e3
  subst e1
  intro hn
  obtain ⟨ad, ea, hb, hc⟩ := hr hn
  exact ⟨ad, ea, fun j hj => (hk _ (by rw [block_of_add]; exact hb)).trans (hc j hj)⟩
/-- What a copy answers: a row of the call's own. -/
def Copied (w : World) (zs : List Int) (e : Ending) (w' : World) : Prop := ∃ v, e = .returned v ∧ OwnI w' w.heap.size v zs ∧ Below w.heap.size w w'

set_option maxHeartbeats 1000000 in
theorem copy_any (v : Value) (zs : List Int) (w : World) (hl : Lst w w.heap.size .i64 v zs) (hn : zs.length ≤ 1000000) :
    Calls Try.prog 15 #[v] w (Copied w zs) := by
  obtain ⟨i0, hi, hz0, hz1, hz2⟩ := info_parts long_info
  obtain ⟨A, c, rfl⟩ := hl.len
  have hsrc := hl.src (w' := w.alloc (.cells #[] 2)) (fun _ hp => (below_new w _).cell hp)
  have SRC := Lib.hid hsrc
  clear hsrc hl
  go_enter Try.func15, Try.ntmps15
  go_wp2_with (at_builtin; go_must (refine wpList_append_src _ rfl (.tmp 3) (.tmp 4) 27 rfl w.heap.size 2 i0 (.int .i64 0) Try.underlying27 hi hz0 hz1 hz2 rfl _ 0 [] rfl (OwnI.empty w _ (Nat.le_refl _)).2 A c zs rfl SRC.out (by unfold maxLen; omega) (by omega) (by simp) ?_); intro v1 w1 hown1 hgrow1)
  have hb := (below_new w (.cells #[] 2)).grown hgrow1 (by simp) (fun k hk => ((OwnI.empty w w.heap.size (Nat.le_refl _)).2.lt k hk).1)
  have ho : OwnI w1 w.heap.size v1 zs := by unfold OwnI; simpa using hown1
  go_ret
  exact ⟨v1, rfl, ho, hb⟩

set_option maxHeartbeats 1000000 in
theorem same_any (v u : Value) (zs : List Int) (w : World) (hv : Lst w w.heap.size .i64 v zs) (hu : Lst w w.heap.size .i64 u zs) (hn : zs.length ≤ 1000000) :
    Calls Try.prog 18 #[v, u] w fun e w' => e = .returned (.bool true) ∧ ∃ n, w.drewN n = w' := by
  obtain ⟨A, c, rfl, hc, hr⟩ := hv
  obtain ⟨A', c', rfl, hc', hr'⟩ := hu
  have HR := Lib.hid hr
  have HR' := Lib.hid hr'
  clear hr hr'
  go_enter Try.func18, Try.ntmps18
  go_wp2_with fail
  go_loopw [5] (fun i wr => ∃ k n : Nat, k ≤ zs.length ∧ i = .int .i64 k ∧ wr = w.drewN n) (fun i _ => zs.length - (intOf i).toNat)
  case atStart => exact ⟨0, 0, Nat.zero_le _, rfl, rfl⟩
  case round =>
    obtain ⟨k, n, hk, rfl, rfl⟩ := hrel
    by_cases hlt : k < zs.length
    · obtain ⟨ad, rfl, hb, hcell⟩ := HR.out (by omega)
      obtain ⟨ad', rfl, hb', hcell'⟩ := HR'.out (by omega)
      have c1 : (w.drewN n).cell? (ad.add k) = some (.int .i64 zs[k]) := hcell k hlt
      have c2 : (w.drewN n).cell? (ad'.add k) = some (.int .i64 zs[k]) := hcell' k hlt
      have c3 : w.cell? (ad.add k) = some (.int .i64 zs[k]) := hcell k hlt
      have c4 : w.cell? (ad'.add k) = some (.int .i64 zs[k]) := hcell' k hlt
      clear hcell hcell' hb hb'
      generalize zs[k] = z at *
      go_wp2_with fail
      go_quiet (fail)
      go_wp2_with fail
      go_roundw
      case rel => exact ⟨k + 1, _, hlt, by go_num, rfl⟩
      case measure => simp [intOf]; omega
    · go_wp2_with fail
      go_ret
      exact ⟨rfl, n, rfl⟩
end Go.Proofs.Ytncankjgmchckaa
