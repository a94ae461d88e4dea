/- What law 8 asks of package label, in one structure, over any reader of package code: to be filled on the landed code; law 8's Same, walked. -/
import Derived.Test.YteiilmnehdbdiaaGreatDoorLabF
import Derived.Test.YteiilmnehdbdiaaGreatDoorLabI
import Derived.Test.YteiilmnehdbdiaaGreatDoorLabQ
import Derived.Test.YteiilmnehdbdiaaGreatDoorLabE
import Derived.Test.YteiilmnehdbdiaaGreatDoorCodJ
import Derived.Test.YteiilmnehdbdiaaGreatDoorPost
namespace Go.Proofs.YteiilmnehdbdiaaGreatDoor
open Go.RowKit

def bytI (n : ByteArray) (x : List Lab) : List Int := if IsRight n x then bytesL n x else []
/-- What a series is handed in as. -/
structure SerW (w : World) (n : ByteArray) (u : Value) (x : List Lab) : Prop where
  labs : Labs w w.heap.size u x
  nm : n.size ≤ 1000000
  len : x.length ≤ 1000000
  sz : ∀ l ∈ x, l.1.size ≤ 1000000 ∧ l.2.size ≤ 1000000
theorem SerW.below {w w' : World} {n : ByteArray} {u : Value} {x : List Lab} (h : SerW w n u x) (hb : Below w.heap.size w w') : SerW w' n u x := ⟨(h.labs.below hb).more hb.size, h.nm, h.len, h.sz⟩
/-- A series and an error that a call answers. -/
def SerE (w : World) (q : ByteArray × List Lab × Int) (e : Ending) (w' : World) : Prop :=
  ∃ v, e = .returned (.tuple #[.agg #[.string q.1, v], .int .i64 q.2.2]) ∧ Labs w' w'.heap.size v q.2.1 ∧ Below w.heap.size w w' ∧ Above w.heap.size v
def ParE (w : World) (s : ByteArray) (e : Ending) (w' : World) : Prop :=
  (∃ n x v, IsRight n x ∧ fullS n x = s ∧ e = .returned (.tuple #[.agg #[.string n, v], .bool true]) ∧ Labs w' w'.heap.size v x ∧ Below w.heap.size w w') ∨
  ((∀ n x, IsRight n x → fullS n x ≠ s) ∧ ∃ v, e = .returned (.tuple #[.agg #[.string ByteArray.empty, v], .bool false]) ∧ Labs w' w'.heap.size v [] ∧ Below w.heap.size w w')

/-- Labels of new memory stand where a call writes elsewhere. -/
theorem Labs.aside_ {w w' : World} {B L0 L U : Nat} {v : Value} {gs : List Lab} (h : Labs w B v gs) (ha : Above L0 v) (hb : Aside L U w w') (hU : U ≤ L0) (hB : B ≤ w.heap.size) : Labs w' B v gs := by
  obtain ⟨A, c, rfl, hc, hr⟩ := h
  refine ⟨A, c, rfl, hc, fun hn => ?_⟩
  obtain ⟨ad, ea, hbk, hcell⟩ := hr hn
  have hk := ha _ _ _ rfl ad ea
  exact ⟨ad, ea, hbk, fun j hj => ⟨(hb.cell (p := ad.add (j * 2)) (by rw [block_of_add]; omega) (Or.inr (by rw [block_of_add]; omega))).trans (hcell j hj).1, (hb.cell (p := ad.add (j * 2 + 1)) (by rw [block_of_add]; omega) (Or.inr (by rw [block_of_add]; omega))).trans (hcell j hj).2⟩⟩

theorem Labs.awayNew {w : World} {B L0 : Nat} {v : Value} {gs : List Lab} (h : Labs w B v gs) (ha : Above L0 v) {p : Addr} (hp : p.block < L0) (u : Value) : Labs (w.setCell p u) B v gs := by
  obtain ⟨A, c, rfl, hc, hr⟩ := h
  refine ⟨A, c, rfl, hc, fun hn => ?_⟩
  obtain ⟨ad, ea, hbk, hcell⟩ := hr hn
  have hk := ha _ _ _ rfl ad ea
  have hne : ∀ i, p ≠ ad.add i := fun i e => by have := congrArg Addr.block e; rw [block_of_add] at this; omega
  exact ⟨ad, ea, hbk, fun j hj => ⟨(World.cell?_setCell_other _ _ _ _ (hne _)).trans (hcell j hj).1, (World.cell?_setCell_other _ _ _ _ (hne _)).trans (hcell j hj).2⟩⟩

structure LabC (Rd : World → Nat → Nat → Nat → List Int → Int → Prop) : Prop where
  make : ∀ n u x w, SerW w n u x → Calls Tryz.prog 10 #[.string n, u] w (SerE w (makeE n x))
  right : ∀ n u x w, SerW w n u x → Calls Tryz.prog 14 #[.agg #[.string n, u]] w fun e w' => e = .returned (.bool (decide (IsRight n x))) ∧ Below w.heap.size w w'
  text : ∀ n u x w, SerW w n u x → Calls Tryz.prog 16 #[.agg #[.string n, u]] w fun e w' => e = .returned (.string (textS n x)) ∧ Below w.heap.size w w'
  bytes : ∀ n u x w, SerW w n u x → Calls Tryz.prog 19 #[.agg #[.string n, u]] w fun e w' => ∃ v, e = .returned v ∧ Lst w' w'.heap.size .u8 v (bytI n x) ∧ Below w.heap.size w w'
  get : ∀ n u x s w, SerW w n u x → Calls Tryz.prog 21 #[.agg #[.string n, u], .string s] w fun e w' => e = .returned (.tuple #[.string ((getL x s).getD ByteArray.empty), .bool (getL x s).isSome]) ∧ Below w.heap.size w w'
  parse : ∀ s w, s.size ≤ 100000 → Calls Tryz.prog 22 #[.string s] w (ParE w s)
  read : ∀ w g L U bs e, Rd w g L U bs e → IsByte bs → bs.length ≤ 1000000 → Calls Tryz.prog 27 #[ptrV g] w fun e' w' =>
    (∃ v, e' = .returned (.tuple #[.agg #[.string (readE bs e).1, v], .int .i64 (readE bs e).2.2]) ∧ Labs w' w'.heap.size v (readE bs e).2.1 ∧ Above w.heap.size v) ∧ Rd w' g L U (rdAll bs e).2.1 (rdAll bs e).2.2 ∧ Aside L U w w'
  compare : ∀ n u x m v y w, SerW w n u x → SerW w m v y → Calls Tryz.prog 31 #[.agg #[.string n, u], .agg #[.string m, v]] w fun e w' => e = .returned (.int .i64 (cmpI n m x y)) ∧ Below w.heap.size w w'

set_option maxRecDepth 100000 in
set_option maxHeartbeats 1000000 in
theorem same8_any (n m : ByteArray) (u v : Value) (x y : List Lab) (w : World) (hx : SerW w n u x) (hy : SerW w m v y) :
    Calls Tryz.prog 32 #[.agg #[.string n, u], .agg #[.string m, v]] w fun e w' => e = .returned (.bool (decide (n = m ∧ x = y))) ∧ Below w.heap.size w w' := by
  obtain ⟨A0, c0, rfl⟩ := hx.labs.len
  obtain ⟨A1, c1, rfl⟩ := hy.labs.len
  have hW : Below w.heap.size w ((w.alloc (.cells #[.string n, .slice A0 x.length c0] 24)).alloc (.cells #[.string m, .slice A1 y.length c1] 24)) := grew2 w _ _
  have aX := (At2.new w (.string n) (.slice A0 x.length c0) 24).alloc (.cells #[.string m, .slice A1 y.length c1] 24)
  have aY := At2.new (w.alloc (.cells #[.string n, .slice A0 x.length c0] 24)) (.string m) (.slice A1 y.length c1) 24
  rw [World.size_alloc] at aY
  have hnx := hx.len
  have hny := hy.len
  have HX := Lib.hid hx.labs
  have HY := Lib.hid hy.labs
  clear hx hy
  go_enter Tryz.func32, Tryz.ntmps32
  go_wp2_with fail
  generalize (w.alloc (.cells #[.string n, .slice A0 x.length c0] 24)).alloc (.cells #[.string m, .slice A1 y.length c1] 24) = W at *
  have aX2 := aX.drew
  have aY2 := aY.drew
  have hB2 := ext_drew hW
  have C1 := Lib.hid (of8_any n _ x W.drew ((HX.out.below hB2).more hB2.size) hnx)
  have C2 : Hid (∀ V, Below w.heap.size w V → _) := Lib.hid fun V h => of8_any m _ y V ((HY.out.below h).more h.size) hny
  clear aX aY hW
  refine wp_region_held_drew (S := fun w' => w'.cell? ⟨w.heap.size, 0, none⟩ = some (.string n) ∧ w'.cell? ⟨w.heap.size, 1, none⟩ = some (.slice A0 x.length c0) ∧ w'.cell? ⟨w.heap.size + 1, 0, none⟩ = some (.string m) ∧ w'.cell? ⟨w.heap.size + 1, 1, none⟩ = some (.slice A1 y.length c1)) (by kernel_rfl) ?_ (fun hHeld => ?_)
  · exact ⟨aX2.c0, aX2.c1, aY2.c0, aY2.c1⟩
  refine take_at (i := 0) (d := some 5) (v := ?_) rfl rfl (by kernel_rfl) (by kernel_rfl) (by kernel_rfl) (fun _ _ _ h => h) (Or.inl ⟨by rfl, ?hyc1⟩) (by assumption) ?restc1
  case hyc1 => (intro w hSw; (try dsimp only at hSw); go_simp; try with_reducible rfl)
  (try simp only [Act.put]); (try simp only [List.setIfInBounds_toArray]); (try simp only [List.set_cons_succ]); (try simp only [List.set_cons_zero])
  refine take_at (i := 2) (d := some 7) (v := ?_) rfl rfl (by kernel_rfl) (by kernel_rfl) (by kernel_rfl) (fun _ _ _ h => h) (Or.inl ⟨by rfl, ?hyc2⟩) (by assumption) ?restc2
  case hyc2 => (intro w hSw; (try dsimp only at hSw); go_simp; try with_reducible rfl)
  (try simp only [Act.put]); (try simp only [List.setIfInBounds_toArray]); (try simp only [List.set_cons_succ]); (try simp only [List.set_cons_zero])
  refine wpAnyH_ready (rs := [1]) (by kernel_rfl) (by simp) ?_
  refine AllReadyH.cons rfl (fun K hK => ?_) AllReadyH.nil
  go_simp
  refine (C1.out).mono ?_; rintro e1 w1 ⟨a, rfl, hO1, hb1⟩
  have aX3 := aX2.below hb1
  have aY3 := aY2.below hb1
  have hB3 := ext_step hB2 hb1
  obtain ⟨A3, c3, rfl⟩ := hO1.val
  try go_wp2_with fail
  refine hK.out _ _ ?_ (fun hHeld => ?_)
  · exact ⟨aX3.c0, aX3.c1, aY3.c0, aY3.c1⟩
  clear hK K
  (try simp only [Act.put]); (try simp only [List.setIfInBounds_toArray]); (try simp only [List.set_cons_succ]); (try simp only [List.set_cons_zero])
  refine wpAnyH_ready (rs := [3]) (by kernel_rfl) (by simp) ?_
  refine AllReadyH.cons rfl (fun K hK => ?_) AllReadyH.nil
  go_simp
  refine (C2.out _ hB3).mono ?_; rintro e2 w2 ⟨b, rfl, hO2, hb2⟩
  have aX4 := aX3.below hb2
  have aY4 := aY3.below hb2
  have hB4 := ext_step hB3 hb2
  obtain ⟨A4, c4, rfl⟩ := hO2.val
  have CS := Lib.hid (rSame8_any n m _ _ x y w2 ((hO1.labs.below hb2).more hb2.size) hO2.labs hnx hny)
  try go_wp2_with fail
  refine hK.out _ _ ?_ (fun hHeld => ?_)
  · exact ⟨aX4.c0, aX4.c1, aY4.c0, aY4.c1⟩
  clear hK K
  (try simp only [Act.put]); (try simp only [List.setIfInBounds_toArray]); (try simp only [List.set_cons_succ]); (try simp only [List.set_cons_zero])
  refine wpAnyH_ready (rs := [4]) (by kernel_rfl) (by simp) ?_
  refine AllReadyH.cons rfl (fun K hK => ?_) AllReadyH.nil
  go_simp
  refine (CS.out).mono ?_; rintro e3 w3 ⟨rfl, hb3⟩
  have aX5 := aX4.below hb3
  have aY5 := aY4.below hb3
  have hB5 := ext_step hB4 hb3
  try go_wp2_with fail
  refine hK.out _ _ ?_ (fun hHeld => ?_)
  · exact ⟨aX5.c0, aX5.c1, aY5.c0, aY5.c1⟩
  clear hK K
  (try simp only [Act.put]); (try simp only [List.setIfInBounds_toArray]); (try simp only [List.set_cons_succ]); (try simp only [List.set_cons_zero])
  refine take_at (i := 5) (d := some 4) (v := ?_) rfl rfl (by kernel_rfl) (by kernel_rfl) (by kernel_rfl) (fun _ _ _ h => h) (Or.inl ⟨by rfl, ?hyc3⟩) (by assumption) ?restc3
  case hyc3 => (intro w hSw; (try dsimp only at hSw); go_simp; try with_reducible rfl)
  (try simp only [Act.put]); (try simp only [List.setIfInBounds_toArray]); (try simp only [List.set_cons_succ]); (try simp only [List.set_cons_zero])
  refine wpAnyH_done (by kernel_rfl) ?_ _
  go_wp2_with fail
  go_ret
  exact ⟨by rw [Bool.decide_and]; rfl, hB5⟩

/-! what was written is read -/
theorem stT_txt (s : ByteArray) (hs : s.size ≤ 64) (rest : List Int) : stT (txtL s ++ rest) 0 64 = (strB s, rest, 0) := by
  have hr : readU (txtL s ++ rest) = ((s.size : Int), strB s ++ rest, 0) := by
    unfold txtL
    rw [List.append_assoc, read_leb (by omega)]
  have hc : stC (txtL s ++ rest) 0 64 = ((s.size : Int), strB s ++ rest, 0) := by
    unfold stC
    rw [hr, if_neg (by rintro ⟨-, -, h⟩; have h : max (64 : Int) 0 < (s.size : Int) := h; omega)]
    unfold stU
    rw [if_pos rfl, hr]
  unfold stT
  rw [hc]
  dsimp only
  have hl := strB_len s
  rw [if_pos rfl, if_neg (by rw [List.length_append]; omega), Int.toNat_natCast, ← hl, List.take_left, List.drop_left]
theorem rdL_labs : ∀ (x : List Lab) (rest : List Int), (∀ l ∈ x, l.1.size ≤ 64 ∧ l.2.size ≤ 64) → rdL x.length (labsL x ++ rest) 0 = (x, rest, 0)
  | [], _, _ => rfl
  | l :: t, rest, h => by
    have h1 := h l (List.mem_cons_self ..)
    rw [List.length_cons, labsL, List.append_assoc, List.append_assoc, rdL, stT_txt _ h1.1]
    dsimp only
    rw [stT_txt _ h1.2]
    dsimp only
    rw [rdL_labs t rest fun m hm => h m (List.mem_cons_of_mem _ hm), bytS_strB, bytS_strB]
theorem readE_bytes {n : ByteArray} {x : List Lab} (hr : IsRight n x) : readE (bytesL n x) 0 = (n, x, 0) ∧ rdAll (bytesL n x) 0 = (x, [], 0) := by
  have hz : ∀ l ∈ x, l.1.size ≤ 64 ∧ l.2.size ≤ 64 := fun l hl => ⟨(hr.2.2.1 l hl).1.2.1, (hr.2.2.1 l hl).2.1⟩
  have h1 := stT_txt n hr.1.2.1 (lebL x.length ++ labsL x)
  have h8 := hr.2.1
  have hru : readU (lebL x.length ++ labsL x) = ((x.length : Int), labsL x, 0) := read_leb (by omega) _
  have h2 : rdCnt (bytesL n x) 0 = ((x.length : Int), labsL x, 0) := by
    unfold rdCnt bytesL
    rw [h1]
    dsimp only
    unfold stC
    rw [hru, if_neg (by rintro ⟨-, -, h⟩; have h : max (8 : Int) 0 < (x.length : Int) := h; omega)]
    unfold stU
    rw [if_pos rfl, hru]
  have h3 : rdAll (bytesL n x) 0 = (x, [], 0) := by
    unfold rdAll
    rw [h2]
    dsimp only
    have := rdL_labs x [] hz
    rw [List.append_nil] at this
    rw [Int.toNat_natCast, this]
  have h4 : rdName (bytesL n x) 0 = n := by
    unfold rdName bytesL
    rw [h1]
    exact bytS_strB n
  refine ⟨?_, h3⟩
  unfold readE
  rw [h3, h4, if_neg (by simp), if_pos hr]
end Go.Proofs.YteiilmnehdbdiaaGreatDoor
