/- Law 5's HistRanks, walked from what the law asks of the packages. -/
import Derived.Test.YtmafkknnekkcdaaHstK
import Derived.Test.YtmafkknnekkcdaaHstV
import Derived.Test.YtmafkknnekkcdaaHstFl
import Derived.Test.YtmafkknnekkcdaaWords
import Derived.Test.YtmafkknnekkcdaaTake
import Derived.Deep.CutBlock
import Derived.Deep.DeepCutAuto
import Derived.Sort.CutIn
namespace Go.Proofs.Ytmafkknnekkcdaa
open Go.RowKit Go.Shelf

theorem But.below {b : Nat} {A W W' : World} (h : But b A W) (hb : Below W.heap.size W W') : But b A W' :=
  ⟨Nat.le_trans h.1 hb.size, fun k hk hne => (hb.block k (Nat.lt_of_lt_of_le hk h.1)).trans (h.2 k hk hne)⟩
theorem But.drew {b : Nat} {A W : World} (h : But b A W) : But b A W.drew := h
theorem But.alloc {b : Nat} {A W : World} (h : But b A W) (o : Obj) : But b A (W.alloc o) := h.below (below_new W o)
/-- A variable of one cell. -/
structure At1 (w : World) (b : Nat) (x : Value) : Prop where
  c : w.cell? ⟨b, 0, none⟩ = some x
  f : w.frozen? ⟨b, 0, none⟩ = false
theorem At1.lt {w : World} {b : Nat} {x : Value} (a : At1 w b x) : b < w.heap.size := World.block_lt_of_cell? _ _ a.c
theorem At1.below {w w1 : World} {b : Nat} {x : Value} (a : At1 w b x) (hb : Below w.heap.size w w1) : At1 w1 b x := ⟨(hb.cell (p := ⟨b, 0, none⟩) a.lt).trans a.c, (hb.frozen (p := ⟨b, 0, none⟩) a.lt).trans a.f⟩
theorem At1.alloc {w : World} {b : Nat} {x : Value} (a : At1 w b x) (o : Obj) : At1 (w.alloc o) b x := a.below (below_new w o)
theorem At1.drew {w : World} {b : Nat} {x : Value} (a : At1 w b x) : At1 w.drew b x := ⟨a.c, a.f⟩
theorem At1.new (w : World) (x : Value) (t : TypeId) : At1 (w.alloc (.cells #[x] t)) w.heap.size x := ⟨World.cell?_alloc_new (w := w) _ _ 0, by simp⟩
theorem At1.set {w : World} {b : Nat} {x : Value} (a : At1 w b x) (y : Value) : At1 (w.setCell ⟨b, 0, none⟩ y) b y := ⟨World.cell?_setCell_same _ _ _ a.c, by rw [World.frozen?_setCell]; exact a.f⟩
theorem But.at1 {b b' : Nat} {A W : World} {x : Value} (h : But b A W) (R : At1 A b' x) (hb : b' ≠ b) : At1 W b' x := by
  have e := h.2 b' R.lt hb
  exact ⟨(World.cell?_of_block (w := A) e).trans R.c, (World.frozen?_of_block (w := A) e).trans R.f⟩
theorem info65l (xs : List Int) (hx : xs.length = 65) : (Try.prog.info? 32).map (·.size) = some (xs.map (Value.int .i64)).length := by rw [info65, List.length_map, hx]

theorem take_sum (zs : List Int) {k : Nat} (h : k < zs.length) : (zs.take (k + 1)).sum = (zs.take k).sum + zs[k] := by
  rw [List.take_succ_eq_append_getElem h, List.sum_append]; simp
theorem sum_bd {zs : List Int} (hf : ∀ z ∈ zs, Fits z) : -(zs.length : Int) * 9223372036854775808 ≤ zs.sum ∧ zs.sum ≤ (zs.length : Int) * 9223372036854775808 := by
  induction zs with
  | nil => simp
  | cons z t ih =>
    have h1 := ih fun y hy => hf y (List.mem_cons_of_mem _ hy)
    have h2 := hf z (List.mem_cons_self ..)
    unfold Fits at h2
    rw [List.sum_cons, List.length_cons]
    omega
theorem sum_mag {zs : List Int} (hf : ∀ z ∈ zs, Fits z) (hl : zs.length ≤ 65) (k : Nat) : mag (zs.take k).sum < 65536 ^ 5 := by
  have h := sum_bd (zs := zs.take k) fun z hz => hf z (List.mem_of_mem_take hz)
  have hk : (zs.take k).length ≤ 65 := by rw [List.length_take]; omega
  rw [pow5]
  unfold mag
  split <;> omega

attribute [local go_sem] Oper.semAt_some

theorem attach_enc (L : List (Int × Int)) : (L.attach.map fun x => encB x.1) = L.map encB := by
  rw [show (fun x : {p // p ∈ L} => encB x.1) = encB ∘ Subtype.val from rfl, ← List.map_map, List.attach_map_subtype_val]

def at1N (b : Nat) (w : World) : Nat := (intOf ((w.cell? ⟨b, 0, none⟩).getD undef)).toNat
theorem At1.n {w : World} {b k : Nat} (a : At1 w b (.int .i64 (k : Int))) : at1N b w = k := by
  unfold at1N
  rw [a.c]
  simp [intOf]

theorem results_one {fn : Func} {p : Tmp} (h : fn.results = #[.cell p 4]) (tmps : Array Value) (w : World) (a : Addr) (v : Value) (hp : tmps.getD p undef = .pointer (some a)) (hc : w.cell? a = some v) :
    (results fn tmps).run Try.prog w = .ok v w := by
  have hp' : tmps[p]?.getD undef = .pointer (some a) := by simpa using hp
  have hu := Try.underlying4
  simp [results, h, hp', asAddr, loadVar, isAgg, run_underlying hu, Sem.run_bind, Result.andThen, load, go_sem]
  simp [Sem.run, hc]

set_option maxRecDepth 100000 in
set_option maxHeartbeats 8000000 in
theorem histRanks_any (G : HistC) (zs : List Int) (hi lo : Int) (w : World) (hl : zs.length = 65) (hf : ∀ z ∈ zs, Fits z) (hh : Fits hi) (l0 : 0 ≤ lo) (l1 : lo ≤ 18446744073709551615) :
    Calls Try.prog 5 #[rowV zs, .agg #[.int .i64 hi, .int .u64 lo]] w fun e w' => e = .returned (.bool true) ∧ Below w.heap.size w w' := by
  have hsb := sum_bd hf
  have hsm := sum_mag hf (by rw [hl]; exact Nat.le_refl _) 65
  rw [List.take_of_length_le (by rw [hl]; exact Nat.le_refl _)] at hsm
  have CD : Hid (∀ W r, NumV W r zs.sum → Calls Try.prog 22 #[r] W fun e w' => e = .returned (.tuple #[.int .i64 (zs.sum / 18446744073709551616), .int .u64 (zs.sum % 18446744073709551616), .bool true]) ∧ Below W.heap.size W w') := Lib.hid fun W r hr => by
    have h := words_any r zs.sum W 5 hr hsm (by decide) (by decide)
    have hfit : Fits (zs.sum / 18446744073709551616) := by rw [hl] at hsb; unfold Fits; omega
    unfold AsWords wordHi wordLo at h
    rw [if_pos hfit, if_pos hfit, decide_eq_true hfit] at h
    exact h
  clear hsb hsm
  have C0 := Lib.hid fun W => alive5_any G W
  have CT := Lib.hid fun W => G.total zs W hl hf
  have cr := fun W => G.rank zs hi lo W hl hf hh l0 (by omega)
  have cq := fun W => rRank_any zs hi lo W hl hf hh l0 l1
  obtain ⟨av, iv, ea, ei⟩ : ∃ (av : Int) (iv : Bool), av = (if 0 ≤ rankV zs hi lo then rankV zs hi lo else 0) ∧ iv = decide (0 ≤ rankV zs hi lo) := ⟨_, _, rfl, rfl⟩
  rw [← ea, ← ei] at cr
  generalize rankV zs hi lo = rk at *
  have hcase : Hid ((iv = true ∧ av = rk ∧ 0 ≤ rk) ∨ (iv = false ∧ av = 0 ∧ rk < 0)) := Lib.hid (by
    by_cases h : 0 ≤ rk
    · exact Or.inl ⟨by rw [ei]; exact decide_eq_true h, by rw [ea, if_pos h], h⟩
    · exact Or.inr ⟨by rw [ei]; exact decide_eq_false h, by rw [ea, if_neg h], by omega⟩)
  clear ea ei
  have CR := Lib.hid cr
  have CQ := Lib.hid cq
  clear cr cq
  have CF := Lib.hid fun W => G.full zs W hl hf
  have HL := Lib.hid hl
  have HF := Lib.hid hf
  have hz0 := zeroH
  have his := infoHl zs hl
  have hi6 := info65l zs hl
  have R2 := RowAt.new w zs 32
  have K3 := At2.new (w.alloc (.cells ((zs.map (Value.int .i64)).toArray) 32)) (.int .i64 hi) (.int .u64 lo) 47
  have R4 := At1.new ((w.alloc (.cells ((zs.map (Value.int .i64)).toArray) 32)).alloc (.cells #[.int .i64 hi, .int .u64 lo] 47)) (.bool false) 4
  rw [World.size_alloc] at K3
  rw [World.size_alloc, World.size_alloc] at R4
  replace R2 := (R2.alloc (.cells #[.int .i64 hi, .int .u64 lo] 47)).alloc (.cells #[.bool false] 4)
  replace K3 := K3.alloc (.cells #[.bool false] 4)
  have hB := grew3 w (.cells ((zs.map (Value.int .i64)).toArray) 32) (.cells #[.int .i64 hi, .int .u64 lo] 47) (.cells #[.bool false] 4)
  clear G hl hf hh l0 l1
  refine (callsIn_wide (n := 8)).1 ?_
  refine callsIn_of_wp_marks Try.func5 rfl trivial ?_ rfl
  simp only [Try.ntmps5, List.size_toArray, List.length_cons, List.length_nil, Nat.reduceAdd, Nat.reduceSub, Array.replicate_succ, Array.replicate_zero, List.push_toArray, List.append_toArray, List.nil_append, List.cons_append]
  refine wpIn_wide.2 ?_
  go_wp2_with fail
  refine (C0.out _).mono ?_; rintro e w0 ⟨rfl, h⟩
  replace hB := ext_step hB h
  replace R2 := R2.below h
  replace K3 := K3.below h
  replace R4 := R4.below h
  clear h C0
  have HR2 := Lib.hid R2.range
  go_upto_region 4 with (first
    | (refine wpList_load_mid rfl _ (.tmp 2) rfl w.heap.size 0 rfl _ _ HR2.out Try.underlying32 rfl hi6 ?_)
    | (refine wpList_store_mid rfl _ (.tmp 5) (.tmp 19) rfl _ 0 _ rfl rfl (there_new w0 zs HL.out) (infoHs zs HL.out) (row_one _) ?_))
  have R5 := row_stored w0 zs HL.out
  have hx := below_own w0 zs
  have g5 : w.heap.size < w0.heap.size := R2.lt
  have g5' : w.heap.size + 1 + 1 < w0.heap.size := R4.lt
  replace R2 := R2.below hx
  replace K3 := K3.below hx
  replace R4 := R4.below hx
  replace hB := below_stored hB zs
  clear hx HR2
  generalize (w0.alloc zobj).setCells w0.heap.size 0 ((zs.map (Value.int .i64)).toArray).toList = W5 at *
  generalize w0.heap.size = b5 at *
  have hN := NumAt.new (zero_num W5) 50
  have g6 : b5 < W5.heap.size := R5.lt
  have g6b := hB.size
  replace R2 := R2.alloc (.cells #[.bool false, .slice none 0 0] 50)
  replace K3 := K3.alloc (.cells #[.bool false, .slice none 0 0] 50)
  replace R4 := R4.alloc (.cells #[.bool false, .slice none 0 0] 50)
  replace R5 := R5.alloc (.cells #[.bool false, .slice none 0 0] 50)
  replace hB := ext_alloc hB (.cells #[.bool false, .slice none 0 0] 50)
  go_wp2_with fail
  generalize W5.alloc (.cells #[.bool false, .slice none 0 0] 50) = W6 at *
  generalize W5.heap.size = b6 at *
  have HG6 : Hid (w.heap.size ≤ b6) := Lib.hid g6b
  have n26 : Hid (w.heap.size ≠ b6) := Lib.hid (by omega)
  have n46 : Hid (w.heap.size + 1 + 1 ≠ b6) := Lib.hid (by omega)
  have n36 : Hid (w.heap.size + 1 ≠ b6) := Lib.hid (by omega)
  have n56 : Hid (b5 ≠ b6) := Lib.hid (by omega)
  have n25 : Hid (w.heap.size + 1 + 1 < b5) := Lib.hid g5'
  clear g5 g5' g6 g6b
  go_loopw [7] (fun i wr => ∃ (k : Nat) (s : Bool) (A : Option Addr) (n c : Nat), k ≤ 65 ∧ i = .int .i64 k ∧ Below w.heap.size w wr ∧ But b6 W6 wr ∧ NumAt wr b6 s A n c (zs.take k).sum) (fun i _ => 65 - (intOf i).toNat)
  case atStart => exact ⟨0, false, none, 0, 0, Nat.zero_le _, rfl, hB, But.refl _ _, hN⟩
  case round =>
    clear hB hN
    obtain ⟨k, s, A, n, c, hk, rfl, hB, hT, hN⟩ := hrel
    by_cases hlt : k < 65
    · have hkz : k < zs.length := by rw [HL.out]; exact hlt
      have i0 : (0 : Int) ≤ (k : Int) := by omega
      have i1 : (k : Int) < 65 := by omega
      have hz := HF.out _ (List.getElem_mem hkz)
      have HS := Lib.hid (take_sum zs hkz)
      have HX : Hid (mag (zs.take k).sum < 65536 ^ 5) := Lib.hid (sum_mag HF.out (by rw [HL.out]; exact Nat.le_refl _) k)
      have HZ : Hid (mag zs[k] < 65536 ^ 5) := Lib.hid (by have := mag_long hz; rw [pow4] at this; rw [pow5]; omega)
      have CO := Lib.hid fun W => of_any zs[k] W hz
      have hck := R2.cell k hkz
      clear hz
      generalize hx : (zs.take k).sum = x at *
      clear hx
      generalize hzk : zs[k] = z at *
      have HZK := Lib.hid hzk
      clear hzk
      go_upto_region 8 with fail
      refine wp_region_noPanic ?_
      refine wp_region_held_drew (S := fun w' => w'.cell? ⟨w.heap.size, k, none⟩ = some (.int .i64 z)) (by kernel_rfl) ?_ (fun hHeld => ?_)
      · exact ((But.row hT.drew R2 n26.out).cell k hkz).trans (congrArg (fun y => some (Value.int .i64 y)) HZK.out)
      refine take_at (i := 1) (d := some 26) (v := ?_) rfl rfl (by kernel_rfl) (by kernel_rfl) (by kernel_rfl) (fun _ _ _ h => h) (Or.inl ⟨by rfl, ?hye1⟩) (by assumption) ?reste1
      case hye1 => (intro w hSw; (try dsimp only at hSw); go_simp; try with_reducible rfl)
      (try simp only [Act.put]); (try simp only [List.setIfInBounds_toArray]); (try simp only [List.set_cons_succ]); (try simp only [List.set_cons_zero])
      refine take_at (i := 2) (d := some 27) (v := ?_) rfl rfl (by kernel_rfl) (by kernel_rfl) (by kernel_rfl) (fun _ _ _ h => h) (Or.inl ⟨by rfl, ?hye2⟩) (by assumption) ?reste2
      case hye2 => (intro w hSw; (try dsimp only at hSw); go_simp; try with_reducible rfl)
      (try simp only [Act.put]); (try simp only [List.setIfInBounds_toArray]); (try simp only [List.set_cons_succ]); (try simp only [List.set_cons_zero])
      refine take_at (i := 3) (d := some 28) (v := ?_) rfl rfl (by kernel_rfl) (by kernel_rfl) (by kernel_rfl) (fun _ _ _ h => h) (Or.inl ⟨by rfl, ?hye3⟩) (by assumption) ?reste3
      case hye3 => (intro w hSw; (try dsimp only at hSw); go_simp; try with_reducible rfl)
      (try simp only [Act.put]); (try simp only [List.setIfInBounds_toArray]); (try simp only [List.set_cons_succ]); (try simp only [List.set_cons_zero])
      refine wpAnyH_ready (rs := [0, 4]) (by kernel_rfl) (by simp) ?_
      refine AllReadyH.cons rfl (fun K hK => ?_) (AllReadyH.cons rfl (fun K hK => ?_) AllReadyH.nil)
      · obtain ⟨l0, l1, -, -, -⟩ := id hN.drew
        go_simp
        clear l0 l1
        refine hK.out _ _ ?_ (fun hHeld => ?_)
        · exact ((But.row hT.drew R2 n26.out).cell k hkz).trans (congrArg (fun y => some (Value.int .i64 y)) HZK.out)
        clear hK K
        (try simp only [Act.put]); (try simp only [List.setIfInBounds_toArray]); (try simp only [List.set_cons_succ]); (try simp only [List.set_cons_zero])
        refine wpAnyH_ready (rs := [4]) (by kernel_rfl) (by simp) ?_
        refine AllReadyH.cons rfl (fun K hK => ?_) AllReadyH.nil
        go_simp
        go_at_call 21
        refine (CO.out _).mono ?_
        rintro e wa ⟨ra, rfl, hra, hq⟩
        have Ba := ext_step hB.drew hq
        have Ta := But.below hT.drew hq
        have Na := NumAt.below hN.drew hq
        clear hq
        try go_wp2_with fail
        refine hK.out _ _ ?_ (fun hHeld => ?_)
        · exact ((But.row Ta R2 n26.out).cell k hkz).trans (congrArg (fun y => some (Value.int .i64 y)) HZK.out)
        clear hK K
        (try simp only [Act.put]); (try simp only [List.setIfInBounds_toArray]); (try simp only [List.set_cons_succ]); (try simp only [List.set_cons_zero])
        refine wpAnyH_ready (rs := [5]) (by kernel_rfl) (by simp) ?_
        refine AllReadyH.cons rfl (fun K hK => ?_) AllReadyH.nil
        go_simp
        go_at_call 20
        refine (addN_any _ _ x z _ 5 (by exact Na.num) (by exact hra) HX.out HZ.out (by decide)).mono ?_
        rintro e wb ⟨rb, rfl, hrb, hq⟩
        have Bb := ext_step Ba hq
        have Tb := But.below Ta hq
        have Nb := NumAt.below Na hq
        clear hq
        obtain ⟨sb, Ab, nb, cb, rfl, -, -⟩ := hrb.form
        try go_wp2_with fail
        refine hK.out _ _ ?_ (fun hHeld => ?_)
        · exact ((But.row Tb R2 n26.out).cell k hkz).trans (congrArg (fun y => some (Value.int .i64 y)) HZK.out)
        clear hK K
        (try simp only [Act.put]); (try simp only [List.setIfInBounds_toArray]); (try simp only [List.set_cons_succ]); (try simp only [List.set_cons_zero])
        refine wpAnyH_ready (rs := [6]) (by kernel_rfl) (by simp) ?_
        refine AllReadyH.cons rfl (fun K hK => ?_) AllReadyH.nil
        obtain ⟨l0, l1, l2, l3, -⟩ := id Nb
        go_simp
        clear l0 l1 l2 l3
        refine hK.out _ _ ?_ (fun hHeld => ?_)
        · exact ((But.row ((Tb.setCell 0 _).setCell 1 _) R2 n26.out).cell k hkz).trans (congrArg (fun y => some (Value.int .i64 y)) HZK.out)
        clear hK K
        (try simp only [Act.put]); (try simp only [List.setIfInBounds_toArray]); (try simp only [List.set_cons_succ]); (try simp only [List.set_cons_zero])
        refine wpAnyH_done (by kernel_rfl) ?_ _
        refine NoPanic.normal ?_
        go_wp2_with fail
        go_roundw
        case rel => exact ⟨k + 1, sb, Ab, nb, cb, hlt, by go_num, (ext_put (ext_put Bb HG6.out _) HG6.out _), ((Tb.setCell 0 _).setCell 1 _), by rw [HS.out]; exact (Nb.set_ hrb)⟩
        case measure => simp [intOf]; omega
      · go_simp
        go_at_call 21
        refine (CO.out _).mono ?_
        rintro e wa ⟨ra, rfl, hra, hq⟩
        have Ba := ext_step hB.drew hq
        have Ta := But.below hT.drew hq
        have Na := NumAt.below hN.drew hq
        clear hq
        try go_wp2_with fail
        refine hK.out _ _ ?_ (fun hHeld => ?_)
        · exact ((But.row Ta R2 n26.out).cell k hkz).trans (congrArg (fun y => some (Value.int .i64 y)) HZK.out)
        clear hK K
        (try simp only [Act.put]); (try simp only [List.setIfInBounds_toArray]); (try simp only [List.set_cons_succ]); (try simp only [List.set_cons_zero])
        refine wpAnyH_ready (rs := [0]) (by kernel_rfl) (by simp) ?_
        refine AllReadyH.cons rfl (fun K hK => ?_) AllReadyH.nil
        obtain ⟨l0, l1, -, -, -⟩ := id Na
        go_simp
        clear l0 l1
        refine hK.out _ _ ?_ (fun hHeld => ?_)
        · exact ((But.row Ta R2 n26.out).cell k hkz).trans (congrArg (fun y => some (Value.int .i64 y)) HZK.out)
        clear hK K
        (try simp only [Act.put]); (try simp only [List.setIfInBounds_toArray]); (try simp only [List.set_cons_succ]); (try simp only [List.set_cons_zero])
        refine wpAnyH_ready (rs := [5]) (by kernel_rfl) (by simp) ?_
        refine AllReadyH.cons rfl (fun K hK => ?_) AllReadyH.nil
        go_simp
        go_at_call 20
        refine (addN_any _ _ x z _ 5 (by exact Na.num) (by exact hra) HX.out HZ.out (by decide)).mono ?_
        rintro e wb ⟨rb, rfl, hrb, hq⟩
        have Bb := ext_step Ba hq
        have Tb := But.below Ta hq
        have Nb := NumAt.below Na hq
        clear hq
        obtain ⟨sb, Ab, nb, cb, rfl, -, -⟩ := hrb.form
        try go_wp2_with fail
        refine hK.out _ _ ?_ (fun hHeld => ?_)
        · exact ((But.row Tb R2 n26.out).cell k hkz).trans (congrArg (fun y => some (Value.int .i64 y)) HZK.out)
        clear hK K
        (try simp only [Act.put]); (try simp only [List.setIfInBounds_toArray]); (try simp only [List.set_cons_succ]); (try simp only [List.set_cons_zero])
        refine wpAnyH_ready (rs := [6]) (by kernel_rfl) (by simp) ?_
        refine AllReadyH.cons rfl (fun K hK => ?_) AllReadyH.nil
        obtain ⟨l0, l1, l2, l3, -⟩ := id Nb
        go_simp
        clear l0 l1 l2 l3
        refine hK.out _ _ ?_ (fun hHeld => ?_)
        · exact ((But.row ((Tb.setCell 0 _).setCell 1 _) R2 n26.out).cell k hkz).trans (congrArg (fun y => some (Value.int .i64 y)) HZK.out)
        clear hK K
        (try simp only [Act.put]); (try simp only [List.setIfInBounds_toArray]); (try simp only [List.set_cons_succ]); (try simp only [List.set_cons_zero])
        refine wpAnyH_done (by kernel_rfl) ?_ _
        refine NoPanic.normal ?_
        go_wp2_with fail
        go_roundw
        case rel => exact ⟨k + 1, sb, Ab, nb, cb, hlt, by go_num, (ext_put (ext_put Bb HG6.out _) HG6.out _), ((Tb.setCell 0 _).setCell 1 _), by rw [HS.out]; exact (Nb.set_ hrb)⟩
        case measure => simp [intOf]; omega
    · obtain rfl : k = 65 := by omega
      rw [List.take_of_length_le (by rw [HL.out]; exact Nat.le_refl _)] at hN
      replace R2 := hT.row R2 n26.out
      replace K3 := hT.at2 K3 n36.out
      replace R4 := hT.at1 R4 n46.out
      replace R5 := hT.row R5 n56.out
      have CE := Lib.hid (CD.out wr _ hN.num)
      obtain ⟨d0, d1, -, -, -⟩ := id hN
      generalize zs.sum / 18446744073709551616 = sh at *
      generalize zs.sum % 18446744073709551616 = sl at *
      clear hT CD hk
      go_wp2_with fail
      refine (CE.out).mono ?_; rintro e w1 ⟨rfl, h⟩
      replace hB := ext_step hB h
      replace R2 := R2.below h
      replace K3 := K3.below h
      replace R4 := R4.below h
      replace R5 := R5.below h
      clear h d0 d1 hN CE
      have HR5 := Lib.hid R5.range
      have hu := Try.underlying33
      go_wp2_with (refine BigFrame.wpList_want rfl fun K hKw => wp_load_mid _ (.tmp 5) rfl b5 0 rfl _ _ HR5.out hu rfl his (hKw _ _ ?_))
      refine (CT.out _).mono ?_; rintro e w2 ⟨rfl, h⟩
      replace hB := ext_step hB h
      replace R2 := R2.below h
      replace K3 := K3.below h
      replace R4 := R4.below h
      replace R5 := R5.below h
      clear h HR5
      obtain ⟨k0, k1, -, -⟩ := id K3
      have HR5 := Lib.hid R5.range
      go_wp2_with (refine wpList_load_mid rfl _ (.tmp 5) rfl b5 0 rfl _ _ HR5.out hu rfl his ?_)
      refine (CR.out _).mono ?_; rintro e w3 ⟨rfl, h⟩
      replace hB := ext_step hB h
      replace R2 := R2.below h
      replace K3 := K3.below h
      replace R4 := R4.below h
      replace R5 := R5.below h
      clear h HR5 k0 k1
      obtain ⟨k0, k1, -, -⟩ := id K3
      have HR2 := Lib.hid R2.range
      go_wp2_with (refine wpList_load_mid rfl _ (.tmp 2) rfl w.heap.size 0 rfl _ _ HR2.out Try.underlying32 rfl hi6 ?_)
      refine (CQ.out _).mono ?_; rintro e w4 ⟨rfl, h⟩
      replace hB := ext_step hB h
      replace R2 := R2.below h
      replace R4 := R4.below h
      replace R5 := R5.below h
      clear h HR2 k0 k1 K3
      rcases hcase.out with ⟨rfl, rfl, hr⟩ | ⟨rfl, rfl, hr⟩
      all_goals
        have n2 : w.heap.size < w4.heap.size := R2.lt
        have n4 : w.heap.size + 1 + 1 < w4.heap.size := R4.lt
        have n5 : b5 < w4.heap.size := R5.lt
        replace R2 := R2.alloc (.cells #[.int .i64 0] 3)
        replace R4 := R4.alloc (.cells #[.int .i64 0] 3)
        replace R5 := R5.alloc (.cells #[.int .i64 0] 3)
        have hB5 := ext_alloc hB (.cells #[.int .i64 0] 3)
        have N1 := At1.new w4 (.int .i64 0) 3
        have N3 : w.heap.size ≤ w4.heap.size := hB.size
        clear hB
        go_upto_region 17 with fail
        generalize w4.alloc (.cells #[.int .i64 0] 3) = W7 at *
        generalize w4.heap.size = bn at *
        have HR := Lib.hid R5.range
        go_wp2_with (refine wpList_load_mid rfl _ (.tmp 5) rfl b5 0 rfl _ _ HR.out hu rfl his ?_)
        refine (CF.out _).mono ?_; rintro e w8 ⟨h, gf, lb, rfl, eg, hseq⟩
        replace R2 := R2.below h
        replace R4 := R4.below h
        have hB8 := ext_step hB5 h
        have N4 : bn < W7.heap.size := N1.lt
        replace N1 := N1.below h
        have hsz8 := h.size
        have N3' : w.heap.size ≤ bn := N3
        have HSQ := Lib.hid (hseq w8 ⟨Nat.le_refl _, fun _ _ _ => rfl⟩ {p : Int × Int // p ∈ fullL zs} (fun x => encB x.1) (fullL zs).attach (attach_enc _))
        have EG := Lib.hid eg
        clear h hseq eg HR R5 hB5
        have hcz := fun (W : World) (h : But bn w8 W) => h.row R2 (by omega)
        have hc4 := fun (W : World) (h : But bn w8 W) => h.at1 R4 (by omega)
        go_wp2_with fail
        generalize hact : ({ tmps := _, defers := [] } : Act) = act
        refine (wpIn_wide (n := 8)).1 ?_
        refine wpIn_rangeFunc_ownF rfl (by decide) (gf := gf) (lb := lb) (by rw [← hact]; rfl) trivial EG.out HSQ.out KeepsIn.trans (KeepsIn.putObj (Nat.le_refl _)) (Below.refl _ _) (fun _ => rfl)
          (fun pre W => (∃ f : Nat, f ≤ 65 ∧ At1 W bn (.int .i64 f) ∧ (pre.map Subtype.val <+: fullL zs → f = nxF 0 (pre.map Subtype.val))) ∧ But bn w8 W ∧ Below w.heap.size w W)
          (fun c pre _ => c = .ret ∧ ¬ pre.map Subtype.val <+: fullL zs)
          (OwnFrom.and ?own1 (OwnFrom.and (But.own (Nat.le_refl _)) (ownFrom_below (Nat.le_refl _) hB8.size)))
          (fun _ _ _ _ _ hs _ _ => hs)
          ⟨⟨0, by omega, N1, fun _ => rfl⟩, But.refl _ _, hB8⟩
          (fun x => { tmps := (((act.tmps.setIfInBounds 81 (.int .i64 x.1.1)).setIfInBounds 82 (.int .i64 x.1.2)).setIfInBounds 15 (.int .i64 x.1.1)).setIfInBounds 16 (.int .i64 x.1.2), defers := [] }) ?assign ?body ?done ?stop
        case own1 => exact Own.from (fun s A B row ⟨f, h1, h2, h3⟩ hg hr => ⟨f, h1, ⟨cell_kept h2.c hg hr, (frozen_kept h2.c hg hr).trans h2.f⟩, h3⟩) _
        case assign =>
          intro l x W K hK
          subst hact
          gi_wp2
          exact hK
        case body =>
          rintro l pre x W ⟨⟨f, hf65, hF1, hpf⟩, hBt, hBl⟩ _
          obtain ⟨b, hb65, hpx, hbz⟩ := full_mem x.2
          have RC := hcz W hBt
          have hbl : b < zs.length := by rw [HL.out]; exact hb65
          have hck := RC.cell b hbl
          have hgd : zs[b] = zs.getD b 0 := by rw [List.getD_eq_getElem?_getD, List.getElem?_eq_getElem hbl]; rfl
          rw [hgd] at hck
          have HP : Hid ((pre ++ [x]).map Subtype.val <+: fullL zs → f ≤ b ∧ ∀ i, f ≤ i → i < b → zs.getD i 0 = 0) := Lib.hid (by
            intro hpre
            rw [List.map_append, List.map_cons, List.map_nil, hpx] at hpre
            have h1 := full_next hpre
            rw [hpf (full_prefix hpre)]
            exact h1)
          have HX : Hid (nxF 0 ((pre ++ [x]).map Subtype.val) = b + 1) := Lib.hid (by
            rw [List.map_append, List.map_cons, List.map_nil, hpx, nxF_snoc]
            show ((b : Nat) : Int).toNat + 1 = b + 1
            rw [Int.toNat_natCast])
          clear hpf hgd
          obtain ⟨f0, f1⟩ := id hF1
          obtain ⟨d0, d1⟩ := hc4 W hBt
          subst hact
          simp only [hpx]
          generalize zs.getD b 0 = v at *
          clear hpx
          have i0 : (0 : Int) ≤ (b : Int) := by omega
          have i1 : (b : Int) < 65 := by omega
          have i2 : ¬ (64 : Int) < (b : Int) := by omega
          by_cases hlt : (b : Int) < (f : Int)
          · gi_wp2
            exact ⟨KeepsOthers.setCell _ _ _, rfl, fun hp => absurd (HP.out hp).1 (by omega)⟩
          · gi_wp2
            have hfb : f ≤ b := by omega
            clear hck f0 f1 d0 d1 RC hbl hlt i2
            gi_loopw [] (fun wr => ∃ g : Nat, f ≤ g ∧ g ≤ b ∧ At1 wr bn (.int .i64 (g : Int)) ∧ But bn w8 wr ∧ Below w.heap.size w wr ∧ KeepsOthers W wr ∧ KeepsIn W7.heap.size w8.heap.size W wr) (fun wr => b - at1N bn wr)
            case atStart => exact ⟨f, Nat.le_refl _, hfb, hF1, hBt, hBl, KeepsOthers.refl _, Nat.le_refl _, fun _ _ _ => rfl⟩
            case round =>
              obtain ⟨g, hfg, hgb, hG, hBt', hBl', hKo, hKi⟩ := hrel
              have hgl : g < zs.length := by rw [HL.out]; omega
              have hck := (hcz wr hBt').cell g hgl
              obtain ⟨g0, g1⟩ := id hG
              obtain ⟨d0, d1⟩ := hc4 wr hBt'
              have j0 : (0 : Int) ≤ (g : Int) := by omega
              have j1 : (g : Int) < 65 := by omega
              by_cases hlt : (g : Int) < (b : Int)
              · by_cases hz : zs[g] = 0
                · rw [hz] at hck
                  gi_wp2
                  go_roundw
                  case rel => exact ⟨g + 1, by omega, by omega, hG.set (.int .i64 ((g + 1 : Nat) : Int)), hBt'.setCell _ _, ext_put hBl' N3' _, hKo.trans (KeepsOthers.setCell _ _ _), hKi.trans (KeepsIn.setCell N4 _ _ _)⟩
                  case measure =>
                    have e1 := hG.n
                    have e2 : at1N bn (wr.setCell { block := bn, off := 0 } (Value.int IntKind.i64 ((g : Int) + 1))) = g + 1 := (hG.set (.int .i64 ((g + 1 : Nat) : Int))).n
                    rw [e1, e2]
                    omega
                · gi_wp2
                  exact ⟨hKo.trans (KeepsOthers.setCell _ _ _), rfl, fun hp => hz (by have h := (HP.out hp).2 g hfg (by omega); rw [List.getD_eq_getElem?_getD, List.getElem?_eq_getElem hgl] at h; exact h)⟩
              · obtain rfl : g = b := by omega
                gi_wp2
                exact ⟨hKo.trans (KeepsOthers.setCell _ _ _), hKi.trans (KeepsIn.setCell N4 _ _ _), ⟨g + 1, by omega, hG.set (.int .i64 ((g + 1 : Nat) : Int)), fun _ => HX.out.symm⟩, hBt'.setCell _ _, ext_put hBl' N3' _⟩
        case done =>
          rintro D xs W hD rfl ⟨⟨f, hf65, hF1, hpf⟩, hBt, hBl⟩ hDf
          rw [List.attach_map_subtype_val] at hpf
          have hno := (full_none zs).2
          rw [← hpf (List.prefix_refl _)] at hno
          replace hno := Lib.hid hno
          clear hpf HSQ EG
          subst hact
          go_wp2_with fail
          go_loopw [] (fun wr => ∃ g : Nat, f ≤ g ∧ g ≤ 65 ∧ At1 wr bn (.int .i64 (g : Int)) ∧ But bn w8 wr ∧ Below w.heap.size w wr ∧ wr.heap[D]? = some (.deferred (some []))) (fun wr => 65 - at1N bn wr)
          case atStart => exact ⟨f, Nat.le_refl _, hf65, hF1, hBt, hBl, hDf⟩
          case round =>
            clear hF1 hBt hBl hDf
            obtain ⟨g, hfg, hg65, hG, hBt, hBl, hDf⟩ := hrel
            obtain ⟨g0, g1⟩ := id hG
            obtain ⟨d0, d1⟩ := hc4 wr hBt
            have hDf1 := Lib.hid hDf
            clear hDf
            by_cases hlt : g < 65
            · have hgl : g < zs.length := by rw [HL.out]; omega
              have hck := (hcz wr hBt).cell g hgl
              have hz : zs[g] = 0 := by
                have h := hno.out g hfg hlt
                rw [List.getD_eq_getElem?_getD, List.getElem?_eq_getElem hgl] at h
                exact h
              rw [hz] at hck
              have j0 : (0 : Int) ≤ (g : Int) := by omega
              have j1 : (g : Int) < 65 := by omega
              go_wp2_with fail
              go_roundw
              case rel => exact ⟨g + 1, by omega, by omega, hG.set (.int .i64 ((g + 1 : Nat) : Int)), hBt.setCell _ _, ext_put hBl N3' _, (Below.heap_setCell wr ⟨bn, 0, none⟩ _ D (by show D ≠ bn; omega)).trans hDf1.out⟩
              case measure =>
                have e1 := hG.n
                have e2 : at1N bn (wr.setCell { block := bn, off := 0 } (Value.int IntKind.i64 ((g : Int) + 1))) = g + 1 := (hG.set (.int .i64 ((g + 1 : Nat) : Int))).n
                rw [e1, e2]
                omega
            · obtain rfl : g = 65 := by omega
              go_wp2_with fail
              have hT4 := (At1.mk d0 d1).set (.bool true)
              have hDs : (wr.setCell ⟨w.heap.size + 1 + 1, 0, none⟩ (.bool true)).heap[D]? = some (.deferred (some [])) := (Below.heap_setCell wr ⟨w.heap.size + 1 + 1, 0, none⟩ _ D (by show D ≠ w.heap.size + 1 + 1; omega)).trans hDf1.out
              have hx := belowK_b (w := w8) (Nat.le_refl _) _ D _ (.deferred none) hD hDs rfl rfl
              have hcl := (hx.cell (p := ⟨w.heap.size + 1 + 1, 0, none⟩) (by show w.heap.size + 1 + 1 < w8.heap.size; omega)).trans hT4.c
              refine ⟨by simp, .inl ⟨_, _, rfl, run_takeDeferred hDs, ?_⟩⟩
              exact ⟨_, results_one rfl _ _ _ _ rfl hcl, rfl, (ext_put hBl (show w.heap.size ≤ w.heap.size + 1 + 1 by omega) _).trans (belowK_b (w := w) (Nat.le_refl _) _ D _ _ (Nat.le_trans hB8.size hD) hDs rfl rfl)⟩
        case stop =>
          rintro D c pre W _ hpre ⟨rfl, hn⟩ _
          refine absurd ?_ hn
          have h := List.IsPrefix.map Subtype.val hpre
          rwa [List.attach_map_subtype_val] at h
end Go.Proofs.Ytmafkknnekkcdaa
