/- Rows of longs: stored whole, compared, run through; one or two of them written out as a slice; rows that the call itself appends to. -/
import Derived.Test.YtmafkknnekkcdaaHstC
import Derived.Great.BuildSlice
import Derived.ChangeKeysEq
import Derived.Laws.StructEq
import Derived.Test.YtmafkknnekkcdaaAppendV
namespace Go.Proofs.Ytmafkknnekkcdaa

section
open Go.RowKit

theorem rowsz (xs : List Int) (hx : xs.length = 65) : ((xs.map (Value.int .i64)).toArray).size = 65 := by simp [hx]
theorem infoHs (xs : List Int) (hx : xs.length = 65) : (Try.prog.info? 33).map (·.size) = some ((xs.map (Value.int .i64)).toArray).size := by rw [infoH, rowsz xs hx]
theorem infoHl (xs : List Int) (hx : xs.length = 65) : (Try.prog.info? 33).map (·.size) = some (xs.map (Value.int .i64)).length := by rw [infoH, List.length_map, hx]
/-- A new variable of the row's size. -/
abbrev zobj : Obj := .cells ((zrow.map (Value.int .i64)).toArray) 33
theorem there_new (w : World) (xs : List Int) (hx : xs.length = 65) : World.there (w.alloc zobj) w.heap.size 0 ((xs.map (Value.int .i64)).toArray).size := by
  have := (RowAt.new w zrow 33).there
  rw [zrow_len] at this
  rw [rowsz xs hx]
  exact this
theorem row_stored (w : World) (xs : List Int) (hx : xs.length = 65) : RowAt ((w.alloc zobj).setCells w.heap.size 0 ((xs.map (Value.int .i64)).toArray).toList) w.heap.size xs :=
  (RowAt.new w zrow 33).put (by rw [hx, zrow_len])
theorem below_stored {w0 w : World} (h : Below w0.heap.size w0 w) (xs : List Int) : Below w0.heap.size w0 ((w.alloc zobj).setCells w.heap.size 0 ((xs.map (Value.int .i64)).toArray).toList) :=
  below_puts (ext_alloc h _) h.size 0 _
theorem below_own (w : World) (xs : List Int) : Below w.heap.size w ((w.alloc zobj).setCells w.heap.size 0 ((xs.map (Value.int .i64)).toArray).toList) := below_stored (Below.refl _ _) xs

/-- Two rows' cells, side by side. -/
def twoRows (xs ys : List Int) : Array Value := ([rowV xs, rowV ys].flatMap fun v => v.cells.toList).toArray
theorem twoRows_eq (xs ys : List Int) : twoRows xs ys = ((xs.map (Value.int .i64)) ++ (ys.map (Value.int .i64))).toArray := by
  simp [twoRows, Value.cells]
theorem RowsS.two (w : World) (xs ys : List Int) (hx : xs.length = 65) (hy : ys.length = 65) (t : TypeId) (g : Nat) (hg : Hid (g = w.heap.size)) : RowsS (w.alloc (.cells (twoRows xs ys) t)) (w.alloc (.cells (twoRows xs ys) t)).heap.size (.slice (some ⟨g, 0, none⟩) 2 2) [xs, ys] := by
  have hg := hg.out; subst hg
  refine ⟨_, 2, rfl, Nat.le_refl _, fun _ => ⟨w.heap.size, 0, rfl, by simp, fun j hj => ?_⟩⟩
  have hj : j = 0 ∨ j = 1 := by simp at hj; omega
  rw [twoRows_eq]
  rcases hj with rfl | rfl
  · refine ⟨hx, fun i v hv => ?_⟩
    have hi : i < xs.length := by have := (List.getElem?_eq_some_iff.1 hv).1; simpa using this
    rw [World.cell?_alloc_new]
    simp only [List.getElem?_toArray]
    rw [List.getElem?_append_left (by simp; omega)]
    simpa using hv
  · refine ⟨hy, fun i v hv => ?_⟩
    rw [World.cell?_alloc_new]
    simp only [List.getElem?_toArray]
    rw [List.getElem?_append_right (by simp; omega)]
    rw [show 0 + 1 * 65 + i - (xs.map (Value.int .i64)).length = i by simp; omega]
    exact hv
theorem hist_parts : ∃ i0, Try.prog.info? 33 = some i0 ∧ i0.zero = some (rowV zrow) ∧ i0.size = 65 := by
  have h : (Try.prog.info? 33).map (fun i => (i.zero, i.size)) = some (some (rowV zrow), 65) := by kernel_rfl
  cases e : Try.prog.info? 33 with
  | none => rw [e] at h; cases h
  | some i0 =>
    rw [e] at h
    simp only [Option.map_some, Option.some.injEq, Prod.mk.injEq] at h
    exact ⟨i0, rfl, h.1, h.2⟩
theorem fill_two (xs ys : List Int) (hx : xs.length = 65) (hy : ys.length = 65) (z : Array Value) (hz : z.size = 130) : Instr.fill (fun i => some (i * 65, 65)) z [(0, rowV xs), (1, rowV ys)] = some (twoRows xs ys) :=
  Great.fill_whole (s := 65) (by decide) [rowV xs, rowV ys] z (fun v hv => by
    simp only [List.mem_cons, List.not_mem_nil, or_false] at hv
    rcases hv with rfl | rfl
    · show ((xs.map (Value.int .i64)).toArray).size = 65; simp [hx]
    · show ((ys.map (Value.int .i64)).toArray).size = 65; simp [hy]) (by simp [hz])
/-- A slice of two rows is written out. -/
theorem wp_two {o : Oper} {a : Act} {w : World} {K : Act → World → Prop} {Q : Exit → Act → World → Prop} (p q : Operand) (ho : o.op = .buildSlice 36 2 #[(0, p), (1, q)]) (xs ys : List Int) (hx : xs.length = 65) (hy : ys.length = 65) (hp : a.eval p = rowV xs) (hq : a.eval q = rowV ys)
    (h : K (a.put o.dst (.slice (some ⟨w.heap.size, 0, none⟩) 2 2)) (w.alloc (.cells (twoRows xs ys) 33))) : o.wp Try.prog a w K Q := by
  obtain ⟨i0, hi, hz, hs⟩ := hist_parts
  refine wp_buildSlice 36 33 2 _ ho (twoRows xs ys) i0 (rowV zrow) Try.underlying36 hi hz (by rw [hs]; decide) (by rw [hs]; decide) ?_ h
  rw [hs]
  simp only [List.map_toArray, List.map_cons, List.map_nil, hp, hq]
  exact fill_two xs ys hx hy _ (by simp)
theorem wpList_two {ops : Array Oper} {rest : List Oper} {o : Oper} {a : Act} {w : World} {Q : Exit → Act → World → Prop} (hgd : o.guard = none) (p q : Operand) (ho : o.op = .buildSlice 36 2 #[(0, p), (1, q)]) (xs ys : List Int) (hx : xs.length = 65) (hy : ys.length = 65) (hp : a.eval p = rowV xs) (hq : a.eval q = rowV ys)
    (h : wpList Try.prog ops Q rest (a.put o.dst (.slice (some ⟨w.heap.size, 0, none⟩) 2 2)) (w.alloc (.cells (twoRows xs ys) 33))) : wpList Try.prog ops Q (o :: rest) a w :=
  wpList_plain hgd fun _ hK => wp_two p q ho xs ys hx hy hp hq (hK _ _ h)
theorem step_two {ops : Array Oper} {o : Oper} {a : Act} {w : World} {K : Act → World → Prop} {Q : Exit → Act → World → Prop} {E : Prop} (hgd : o.guard = none) (p q : Operand) (ho : o.op = .buildSlice 36 2 #[(0, p), (1, q)]) (xs ys : List Int) (hx : xs.length = 65) (hy : ys.length = 65) (hp : a.eval p = rowV xs) (hq : a.eval q = rowV ys)
    (h : K (a.put o.dst (.slice (some ⟨w.heap.size, 0, none⟩) 2 2)) (w.alloc (.cells (twoRows xs ys) 33))) : if Region.wanted o (yielded ops a.tmps) = true then Oper.wp Try.prog o a w K Q else E := by
  rw [if_pos (by simp [Region.wanted, hgd])]
  exact wp_two p q ho xs ys hx hy hp hq h
end

section
open Go.RowKit

theorem long_plain : Try.prog.plainKey 2 = true := by kernel_rfl
theorem long_cells : Try.prog.cellsOf 2 = 1 := by kernel_rfl
theorem items_same (xs : List Int) (hx : xs.length = 65) (w : World) : ∀ is : List Nat, (∀ i ∈ is, i < 65) → (Op.eqItems 9999 2 1 ((xs.map (Value.int .i64)).toArray) ((xs.map (Value.int .i64)).toArray) is).run Try.prog w = .ok true w
  | [], _ => by simp [Op.eqItems]
  | i :: is, h => by
    have hi : i < xs.length := by rw [hx]; exact h i (List.mem_cons_self ..)
    have e : ((xs.map (Value.int .i64)).toArray)[i * 1]? = some (Value.int .i64 xs[i]) := by simp [hi]
    have hp := run_part_plain w long_plain e
    have hu := Try.underlying2
    have he : (Op.equalIn 9999 2 (.int .i64 xs[i]) (.int .i64 xs[i])).run Try.prog w = .ok true w := by
      rw [run_equalIn_int w 9998 _ _ _ _ _ hu]; simp
    simp only [Op.eqItems, Sem.run_bind, hp, Result.andThen_ok, he]
    simpa using items_same xs hx w is fun j hj => h j (List.mem_cons_of_mem _ hj)
theorem long_some : ∃ i0, Try.prog.info? 2 = some i0 := by
  have h : (Try.prog.info? 2).isSome = true := by kernel_rfl
  exact Option.isSome_iff_exists.1 h
theorem same_row (xs : List Int) (hx : xs.length = 65) (w : World) : (Op.equalIn 10000 33 (rowV xs) (rowV xs)).run Try.prog w = .ok true w := by
  obtain ⟨i0, hi⟩ := long_some
  rw [run_equalIn_array w 9999 _ _ Try.underlying33 hi, long_cells]
  exact items_same xs hx w _ fun i h => List.mem_range.1 h
theorem eql_row (xs : List Int) (hx : xs.length = 65) (w : World) : (binOp .eql 33 (rowV xs) (rowV xs)).run Try.prog w = .ok (.bool true) w := by
  rw [run_eql_struct, same_row xs hx w]; rfl
theorem neq_row (xs : List Int) (hx : xs.length = 65) (w : World) : (binOp .neq 33 (rowV xs) (rowV xs)).run Try.prog w = .ok (.bool false) w := by
  rw [run_neq_struct, same_row xs hx w]; rfl
theorem wp_row {o : Oper} {a : Act} {w : World} {K : Act → World → Prop} {Q : Exit → Act → World → Prop} (p q : Operand) (ho : o.op = .store 33 p q) (b : Nat) (zs xs : List Int) (R : RowAt w b zs) (hz : zs.length = 65) (hx : xs.length = 65) (hp : a.eval p = .pointer (some ⟨b, 0, none⟩)) (hq : a.eval q = rowV xs)
    (h : K (a.put o.dst undef) (w.setCells b 0 ((xs.map (Value.int .i64)).toArray).toList)) : o.wp Try.prog a w K Q :=
  wp_store_mid _ p q ho b 0 _ hp hq (by have := R.there; rw [hz] at this; rw [rowsz xs hx]; exact this) (infoHs xs hx) (row_one _) h
theorem step_row {ops : Array Oper} {o : Oper} {a : Act} {w : World} {K : Act → World → Prop} {Q : Exit → Act → World → Prop} {E : Prop} (hgd : o.guard = none) (p q : Operand) (ho : o.op = .store 33 p q) (b : Nat) (zs xs : List Int) (R : RowAt w b zs) (hz : zs.length = 65) (hx : xs.length = 65) (hp : a.eval p = .pointer (some ⟨b, 0, none⟩)) (hq : a.eval q = rowV xs)
    (h : K (a.put o.dst undef) (w.setCells b 0 ((xs.map (Value.int .i64)).toArray).toList)) : if Region.wanted o (yielded ops a.tmps) = true then Oper.wp Try.prog o a w K Q else E := by
  rw [if_pos (by simp [Region.wanted, hgd])]
  exact wp_row p q ho b zs xs R hz hx hp hq h
theorem row_put {w : World} {b : Nat} {zs : List Int} (R : RowAt w b zs) (hz : zs.length = 65) (xs : List Int) (hx : xs.length = 65) : RowAt (w.setCells b 0 ((xs.map (Value.int .i64)).toArray).toList) b xs := R.put (by rw [hx, hz])
theorem RowAt.new1 (w : World) (o : Obj) (zs : List Int) (t : TypeId) : RowAt ((w.alloc o).alloc (.cells ((zs.map (Value.int .i64)).toArray) t)) (w.heap.size + 1) zs := by
  have := RowAt.new (w.alloc o) zs t
  rwa [World.size_alloc] at this
theorem there65 {w : World} {b : Nat} {zs : List Int} (R : RowAt w b zs) (hz : zs.length = 65) : w.there b 0 65 := by have := R.there; rwa [hz] at this
theorem one_cells (xs : List Int) : ∀ v ∈ xs.map (Value.int .i64), v.oneCell' = true := fun v hv => by obtain ⟨z, _, rfl⟩ := List.mem_map.1 hv; rfl
theorem RowsS.more {w : World} {B B' : Nat} {v : Value} {rs : List (List Int)} (h : RowsS w B v rs) (hB : B ≤ B') : RowsS w B' v rs := by
  obtain ⟨A, c, rfl, hc, hr⟩ := h
  refine ⟨A, c, rfl, hc, fun hn => ?_⟩
  obtain ⟨b, o, e, hb, hcell⟩ := hr hn
  exact ⟨b, o, e, Nat.lt_of_lt_of_le hb hB, hcell⟩
theorem run_two (xs ys : List Int) (hx : xs.length = 65) (hy : ys.length = 65) (w : World) : (Instr.buildSlice 36 2 #[(0, rowV xs), (1, rowV ys)]).run Try.prog w = .ok (.slice (some ⟨w.heap.size, 0, none⟩) 2 2) (w.alloc (.cells (twoRows xs ys) 33)) := by
  obtain ⟨i0, hi, hz, hs⟩ := hist_parts
  refine run_buildSlice w _ _ 2 _ (twoRows xs ys) i0 (rowV zrow) Try.underlying36 hi hz (by rw [hs]; decide) (by rw [hs]; decide) ?_
  rw [hs]
  exact fill_two xs ys hx hy _ (by simp)
theorem Lst.from_ {w : World} {B : Nat} {k : IntKind} {A : Option Addr} {n c : Nat} {zs : List Int} (h : Lst w B k (.slice A n c) zs) {m : Nat} (hm : m ≤ zs.length) :
    Lst w B k (.slice (if c = m then A else A.map (·.add m)) (zs.length - m) (c - m)) (zs.drop m) := by
  obtain ⟨A', c', e, hc, hr⟩ := h
  injection e with e1 e2 e3
  subst e1; subst e3
  refine ⟨_, _, by rw [List.length_drop], by rw [List.length_drop]; omega, fun hn => ?_⟩
  rw [List.length_drop] at hn
  obtain ⟨ad, rfl, hb, hcell⟩ := hr (by omega)
  rw [if_neg (by omega)]
  refine ⟨ad.add m, rfl, by rw [block_of_add]; exact hb, fun j hj => ?_⟩
  rw [List.length_drop] at hj
  have e : (ad.add m).add j = ad.add (m + j) := by
    unfold Addr.add
    by_cases h1 : m = 0 <;> by_cases h2 : j = 0 <;> simp [h1, h2, Nat.add_assoc]
  rw [e, hcell (m + j) (by omega), List.getElem_drop]
end

section
open Go.RowKit

/-- The cells of rows. -/
def cellsR (rs : List (List Int)) : List Value := rs.flatMap fun r => r.map (Value.int .i64)
theorem cellsR_length : ∀ {rs : List (List Int)}, (∀ r ∈ rs, r.length = 65) → (cellsR rs).length = rs.length * 65
  | [], _ => rfl
  | r :: t, h => by
    have h1 := cellsR_length (rs := t) fun x hx => h x (List.mem_cons_of_mem _ hx)
    have h2 := h r (List.mem_cons_self ..)
    show (r.map (Value.int .i64) ++ cellsR t).length = (t.length + 1) * 65
    rw [List.length_append, List.length_map, h1, h2]; omega
theorem cellsR_at : ∀ (rs : List (List Int)), (∀ r ∈ rs, r.length = 65) → ∀ (j : Nat) (hj : j < rs.length) (i : Nat) (v : Value), (rs[j].map (Value.int .i64))[i]? = some v → (cellsR rs)[j * 65 + i]? = some v
  | [], _, j, hj, _, _, _ => by simp at hj
  | r :: t, h, 0, _, i, v, hv => by
    show (r.map (Value.int .i64) ++ cellsR t)[0 * 65 + i]? = some v
    have hv : (r.map (Value.int .i64))[i]? = some v := hv
    have hi := (List.getElem?_eq_some_iff.1 hv).1
    rw [Nat.zero_mul, Nat.zero_add, List.getElem?_append_left hi]
    exact hv
  | r :: t, h, j + 1, hj, i, v, hv => by
    have h1 := cellsR_at t (fun x hx => h x (List.mem_cons_of_mem _ hx)) j (by simpa using hj) i v hv
    have h2 := h r (List.mem_cons_self ..)
    show (r.map (Value.int .i64) ++ cellsR t)[(j + 1) * 65 + i]? = some v
    rw [List.getElem?_append_right (by rw [List.length_map, h2]; omega), List.length_map, h2, show (j + 1) * 65 + i - 65 = j * 65 + i by omega]
    exact h1
theorem cellsR_snoc (rs : List (List Int)) (r : List Int) : cellsR rs ++ r.map (Value.int .i64) = cellsR (rs ++ [r]) := by
  unfold cellsR; rw [List.flatMap_append]; simp
theorem add_zero (g j : Nat) : (⟨g, 0, none⟩ : Addr).add j = ⟨g, j, none⟩ := by simp [Addr.add]; intro h; omega
/-- A row of histograms that the call itself made. -/
def OwnR (w : World) (B : Nat) (v : Value) (rs : List (List Int)) : Prop := w.ownsRow B 33 65 v rs.length (cellsR rs)
theorem OwnR.rows {w : World} {B : Nat} {v : Value} {rs : List (List Int)} (h : OwnR w B v rs) (hr : ∀ r ∈ rs, r.length = 65) : RowsS w w.heap.size v rs := by
  rcases h.2 with ⟨rfl, hn⟩ | ⟨g, cap, cur, rfl, hb, hh, hc, _⟩
  · exact ⟨none, 0, by rw [hn], by omega, fun h => by omega⟩
  · refine ⟨_, _, rfl, hc, fun hn => ⟨g, 0, rfl, (World.ownsRow.lt h g rfl).2, fun j hj => ⟨hr _ (List.getElem_mem hj), fun i u hu => ?_⟩⟩⟩
    rw [Nat.zero_add, ← add_zero g (j * 65 + i)]
    exact World.ownsRow.cells h (g := g) rfl _ _ (cellsR_at rs hr j hj i u hu)
theorem OwnR.below {w w1 : World} {B : Nat} {v : Value} {rs : List (List Int)} (h : OwnR w B v rs) (hb : Below w.heap.size w w1) : OwnR w1 B v rs := by
  refine ⟨h.1, ?_⟩
  rcases h.2 with h0 | ⟨g, cap, cur, rfl, hg, hh, h2⟩
  · exact .inl h0
  · exact .inr ⟨g, cap, cur, rfl, hg, (hb.block g (World.ownsRow.lt h g rfl).2).trans hh, h2⟩
theorem OwnR.empty (w : World) : OwnR (w.alloc (.cells #[] 33)) w.heap.size (.slice (some ⟨w.heap.size, 0, none⟩) 0 0) [] :=
  World.ownsRow_lit w #[] 0 (Nat.le_refl _) (by simp [maxLen]) rfl
/-- One row's cells. -/
def oneRow (xs : List Int) : Array Value := ([rowV xs].flatMap fun v => v.cells.toList).toArray
theorem oneRow_eq (xs : List Int) : oneRow xs = (xs.map (Value.int .i64)).toArray := by simp [oneRow, Value.cells]
theorem one_src (w : World) (xs : List Int) (t : TypeId) : SrcV (w.alloc (.cells (oneRow xs) t)) (some ⟨w.heap.size, 0, none⟩) 1 (xs.map (Value.int .i64)) := fun _ => ⟨_, rfl, fun j u hu => by
  rw [add_zero, World.cell?_alloc_new, oneRow_eq]
  simpa using hu⟩
theorem OwnR.grow {w wr w1 : World} {B : Nat} {v v' : Value} {rs : List (List Int)} {r : List Int} {o : Obj} (hown : OwnR wr B v rs) (hbel : Below B w wr) (hsz : B ≤ wr.heap.size)
    (h' : w1.ownsRow B 33 65 v' (rs.length + 1) (cellsR rs ++ r.map (Value.int .i64))) (hg : (wr.alloc o).grownBy w1 v.ownBlock) : OwnR w1 B v' (rs ++ [r]) ∧ Below B w w1 := by
  constructor
  · rw [cellsR_snoc] at h'; unfold OwnR; simpa using h'
  · exact (hbel.alloc hsz o).grown hg (by simp; omega) (fun k hk => (World.ownsRow.lt hown k hk).1)
theorem hist_bytes : ∃ i0, Try.prog.info? 33 = some i0 ∧ i0.zero = some (rowV zrow) ∧ i0.size = 65 ∧ i0.bytes = 520 := by
  have h : (Try.prog.info? 33).map (fun i => (i.zero, i.size, i.bytes)) = some (some (rowV zrow), 65, 520) := by kernel_rfl
  cases e : Try.prog.info? 33 with
  | none => rw [e] at h; cases h
  | some i0 =>
    rw [e] at h
    simp only [Option.map_some, Option.some.injEq, Prod.mk.injEq] at h
    exact ⟨i0, rfl, h.1, h.2.1, h.2.2⟩
theorem row_parts : ∃ i0, Try.prog.info? 32 = some i0 ∧ i0.zero = some (rowV zrow) ∧ i0.size = 65 := by
  have h : (Try.prog.info? 32).map (fun i => (i.zero, i.size)) = some (some (rowV zrow), 65) := by kernel_rfl
  cases e : Try.prog.info? 32 with
  | none => rw [e] at h; cases h
  | some i0 =>
    rw [e] at h
    simp only [Option.map_some, Option.some.injEq, Prod.mk.injEq] at h
    exact ⟨i0, rfl, h.1, h.2⟩
theorem fill_one (xs : List Int) (hx : xs.length = 65) (z : Array Value) (hz : z.size = 65) : Instr.fill (fun i => some (i * 65, 65)) z [(0, rowV xs)] = some (oneRow xs) :=
  Great.fill_whole (s := 65) (by decide) [rowV xs] z (fun v hv => by
    simp only [List.mem_cons, List.not_mem_nil, or_false] at hv
    subst hv
    show ((xs.map (Value.int .i64)).toArray).size = 65; simp [hx]) (by simp [hz])
/-- A slice of one row is written out. -/
theorem wp_one {o : Oper} {a : Act} {w : World} {K : Act → World → Prop} {Q : Exit → Act → World → Prop} (p : Operand) (ho : o.op = .buildSlice 36 1 #[(0, p)]) (xs : List Int) (hx : xs.length = 65) (hp : a.eval p = rowV xs)
    (h : K (a.put o.dst (.slice (some ⟨w.heap.size, 0, none⟩) 1 1)) (w.alloc (.cells (oneRow xs) 33))) : o.wp Try.prog a w K Q := by
  obtain ⟨i0, hi, hz, hs⟩ := hist_parts
  refine wp_buildSlice 36 33 1 _ ho (oneRow xs) i0 (rowV zrow) Try.underlying36 hi hz (by rw [hs]; decide) (by rw [hs]; decide) ?_ h
  rw [hs]
  simp only [List.map_toArray, List.map_cons, List.map_nil, hp]
  exact fill_one xs hx _ (by simp)
theorem wpList_one {ops : Array Oper} {rest : List Oper} {o : Oper} {a : Act} {w : World} {Q : Exit → Act → World → Prop} (hgd : o.guard = none) (p : Operand) (ho : o.op = .buildSlice 36 1 #[(0, p)]) (xs : List Int) (hx : xs.length = 65) (hp : a.eval p = rowV xs)
    (h : wpList Try.prog ops Q rest (a.put o.dst (.slice (some ⟨w.heap.size, 0, none⟩) 1 1)) (w.alloc (.cells (oneRow xs) 33))) : wpList Try.prog ops Q (o :: rest) a w :=
  wpList_plain hgd fun _ hK => wp_one p ho xs hx hp (hK _ _ h)
/-- A slice of two rows of longs is written out. -/
theorem wp_twoR {o : Oper} {a : Act} {w : World} {K : Act → World → Prop} {Q : Exit → Act → World → Prop} (p q : Operand) (ho : o.op = .buildSlice 31 2 #[(0, p), (1, q)]) (xs ys : List Int) (hx : xs.length = 65) (hy : ys.length = 65) (hp : a.eval p = rowV xs) (hq : a.eval q = rowV ys)
    (h : K (a.put o.dst (.slice (some ⟨w.heap.size, 0, none⟩) 2 2)) (w.alloc (.cells (twoRows xs ys) 32))) : o.wp Try.prog a w K Q := by
  obtain ⟨i0, hi, hz, hs⟩ := row_parts
  refine wp_buildSlice 31 32 2 _ ho (twoRows xs ys) i0 (rowV zrow) Try.underlying31 hi hz (by rw [hs]; decide) (by rw [hs]; decide) ?_ h
  rw [hs]
  simp only [List.map_toArray, List.map_cons, List.map_nil, hp, hq]
  exact fill_two xs ys hx hy _ (by simp)
theorem step_twoR {ops : Array Oper} {o : Oper} {a : Act} {w : World} {K : Act → World → Prop} {Q : Exit → Act → World → Prop} {E : Prop} (hgd : o.guard = none) (p q : Operand) (ho : o.op = .buildSlice 31 2 #[(0, p), (1, q)]) (xs ys : List Int) (hx : xs.length = 65) (hy : ys.length = 65) (hp : a.eval p = rowV xs) (hq : a.eval q = rowV ys)
    (h : K (a.put o.dst (.slice (some ⟨w.heap.size, 0, none⟩) 2 2)) (w.alloc (.cells (twoRows xs ys) 32))) : if Region.wanted o (yielded ops a.tmps) = true then Oper.wp Try.prog o a w K Q else E := by
  rw [if_pos (by simp [Region.wanted, hgd])]
  exact wp_twoR p q ho xs ys hx hy hp hq h
/-- A row of longs is stored whole. -/
theorem infoRs (xs : List Int) (hx : xs.length = 65) : (Try.prog.info? 32).map (·.size) = some ((xs.map (Value.int .i64)).toArray).size := by rw [info65, rowsz xs hx]
theorem infoRl (xs : List Int) (hx : xs.length = 65) : (Try.prog.info? 32).map (·.size) = some (xs.map (Value.int .i64)).length := by rw [info65, List.length_map, hx]
abbrev robj : Obj := .cells ((zrow.map (Value.int .i64)).toArray) 32
theorem thereR_new (w : World) (xs : List Int) (hx : xs.length = 65) : World.there (w.alloc robj) w.heap.size 0 ((xs.map (Value.int .i64)).toArray).size := by
  have := (RowAt.new w zrow 32).there
  rw [zrow_len] at this
  rw [rowsz xs hx]
  exact this
theorem rowR_stored (w : World) (xs : List Int) (hx : xs.length = 65) : RowAt ((w.alloc robj).setCells w.heap.size 0 ((xs.map (Value.int .i64)).toArray).toList) w.heap.size xs :=
  (RowAt.new w zrow 32).put (by rw [hx, zrow_len])
theorem belowR_stored {w0 w : World} (h : Below w0.heap.size w0 w) (xs : List Int) : Below w0.heap.size w0 ((w.alloc robj).setCells w.heap.size 0 ((xs.map (Value.int .i64)).toArray).toList) :=
  below_puts (ext_alloc h _) h.size 0 _
theorem belowR_own (w : World) (xs : List Int) : Below w.heap.size w ((w.alloc robj).setCells w.heap.size 0 ((xs.map (Value.int .i64)).toArray).toList) := belowR_stored (Below.refl _ _) xs
theorem wp_rowR {o : Oper} {a : Act} {w : World} {K : Act → World → Prop} {Q : Exit → Act → World → Prop} (p q : Operand) (ho : o.op = .store 32 p q) (b : Nat) (zs xs : List Int) (R : RowAt w b zs) (hz : zs.length = 65) (hx : xs.length = 65) (hp : a.eval p = .pointer (some ⟨b, 0, none⟩)) (hq : a.eval q = rowV xs)
    (h : K (a.put o.dst undef) (w.setCells b 0 ((xs.map (Value.int .i64)).toArray).toList)) : o.wp Try.prog a w K Q :=
  wp_store_mid _ p q ho b 0 _ hp hq (by have := R.there; rw [hz] at this; rw [rowsz xs hx]; exact this) (infoRs xs hx) (row_one _) h
theorem step_rowR {ops : Array Oper} {o : Oper} {a : Act} {w : World} {K : Act → World → Prop} {Q : Exit → Act → World → Prop} {E : Prop} (hgd : o.guard = none) (p q : Operand) (ho : o.op = .store 32 p q) (b : Nat) (zs xs : List Int) (R : RowAt w b zs) (hz : zs.length = 65) (hx : xs.length = 65) (hp : a.eval p = .pointer (some ⟨b, 0, none⟩)) (hq : a.eval q = rowV xs)
    (h : K (a.put o.dst undef) (w.setCells b 0 ((xs.map (Value.int .i64)).toArray).toList)) : if Region.wanted o (yielded ops a.tmps) = true then Oper.wp Try.prog o a w K Q else E := by
  rw [if_pos (by simp [Region.wanted, hgd])]
  exact wp_rowR p q ho b zs xs R hz hx hp hq h
end
end Go.Proofs.Ytmafkknnekkcdaa
