/- Which of two whole numbers is the greater, walked. -/
import Derived.Test.YtmafkknnekkcdaaNumAt
import Derived.Deep.RegionWith
import Derived.Deep.CutBlock
import Derived.Deep.DeepCutAuto
namespace Go.Proofs.Ytmafkknnekkcdaa
open Go.RowKit

set_option maxRecDepth 100000 in
set_option maxHeartbeats 8000000 in
theorem cmp_any (r u : Value) (x y : Int) (w : World) (L : Nat) (hx : NumV w r x) (hy : NumV w u y) (lx : mag x < 65536 ^ L) (ly : mag y < 65536 ^ L) (hL : L ≤ 10000) :
    Calls Try.prog 47 #[r, u] w fun e w' => e = .returned (.int .i64 (cmpI x y)) ∧ Below w.heap.size w w' := by
  obtain ⟨s, A, n, c, rfl, hs, ha⟩ := hx.form
  obtain ⟨t, A', n', c', rfl, ht, hb⟩ := hy.form
  have N1 := (NumAt.new hx 50).alloc (.cells #[.bool t, .slice A' n' c'] 50)
  have N2 := NumAt.new (hy.below (below_new w (.cells #[.bool s, .slice A n c] 50))) 50
  rw [World.size_alloc] at N2
  have hbw : Below w.heap.size w ((w.alloc (.cells #[.bool s, .slice A n c] 50)).alloc (.cells #[.bool t, .slice A' n' c'] 50)) := (below_new w _).alloc (by simp) _
  have HBW := Lib.hid hbw
  clear ha hb hx hy hbw
  go_enter Try.func47, Try.ntmps47
  go_upto_region 1 with fail
  change Code.wp _ _ _ _ ((w.alloc (.cells #[.bool s, .slice A n c] 50)).alloc (.cells #[.bool t, .slice A' n' c'] 50))
  generalize (w.alloc (.cells #[.bool s, .slice A n c] 50)).alloc (.cells #[.bool t, .slice A' n' c'] 50) = W at *
  obtain ⟨k0, k1, k2, k3, k4⟩ := id N1
  obtain ⟨l0, l1, l2, l3, l4⟩ := id N2
  have hny : mag (-y) < 65536 ^ L := by
    have e : mag (-y) = mag y := by unfold mag; split <;> split <;> omega
    rw [e]; exact ly
  have z1 := N1.lt
  have z2 := N2.lt
  go_cut [5] (fun d wx => ∃ (g : Nat) (s2 : Bool) (A2 : Option Addr) (n2 c2 : Nat), d = .pointer (some ⟨g, 0, none⟩) ∧ NumAt wx g s2 A2 n2 c2 (x + -y) ∧ Below w.heap.size w wx)
  case first =>
    go_region_with (first
      | (go_at_call 41; refine (neg_any _ y _ L (by exact (NumV.drew (l4.below (below_new W fresh)))) ly (by omega)).mono ?_; rintro e w1 ⟨r1, rfl, hr1, hq1⟩; have M1 := NumAt.below (N1.alloc fresh).drew hq1; obtain ⟨i0, i1, i2, i3, k5⟩ := id M1; have z3 := M1.lt; have D1 := NumAt.below (NumAt.new (zero_num W) 50).drew hq1; obtain ⟨d0, d1, d2, d3, -⟩ := id D1; have hb1 : Below w.heap.size w w1 := ext_step (ext_drew (ext_alloc HBW.out fresh)) hq1)
      | (go_at_call 41; refine (neg_any _ y _ L (by exact l4.drew) ly (by omega)).mono ?_; rintro e w1 ⟨r1, rfl, hr1, hq1⟩; have M1 := NumAt.below N1.drew hq1; obtain ⟨i0, i1, i2, i3, k5⟩ := id M1; have z3 := M1.lt; have hb1 : Below w.heap.size w w1 := ext_step (ext_drew HBW.out) hq1)
      | (go_at_call 20; refine (addN_any _ _ x (-y) _ L (by exact k5) (by exact hr1) lx hny (by omega)).mono ?_; rintro e w2 ⟨r2, rfl, hr2, hq2⟩; have D2 := D1.below hq2; obtain ⟨g0, g1, g2, g3, -⟩ := id D2; have hb2 : Below w.heap.size w w2 := ext_step hb1 hq2; obtain ⟨s2, A2, n2, c2, rfl, hs2, ha2⟩ := hr2.form; have hsg := Lib.hid hr2.sign)
      | (go_at_call 20; refine (addN_any _ _ x (-y) _ L (by exact (k5.below (below_new w1 fresh))) (by exact (hr1.below (below_new w1 fresh))) lx hny (by omega)).mono ?_; rintro e w2 ⟨r2, rfl, hr2, hq2⟩; have D2 := NumAt.below (NumAt.new (zero_num w1) 50) hq2; obtain ⟨g0, g1, g2, g3, -⟩ := id D2; have hb2 : Below w.heap.size w w2 := ext_step (ext_alloc hb1 fresh) hq2; obtain ⟨s2, A2, n2, c2, rfl, hs2, ha2⟩ := hr2.form; have hsg := Lib.hid hr2.sign)
      | (go_at_call 20; refine (addN_any _ _ x (-y) _ L (by exact k5) (by exact hr1) lx hny (by omega)).mono ?_; rintro e w2 ⟨r2, rfl, hr2, hq2⟩; have hb2 : Below w.heap.size w w2 := ext_step hb1 hq2; obtain ⟨s2, A2, n2, c2, rfl, hs2, ha2⟩ := hr2.form; have hsg := Lib.hid hr2.sign))
    all_goals
      go_wp2_with fail
      go_meet
      first
        | exact ⟨_, s2, A2, n2, c2, rfl, NumAt.new hr2 _, ext_alloc hb2 _⟩
        | exact ⟨_, s2, A2, n2, c2, rfl, D2.set_ hr2, ext_put (ext_put hb2 (by have := hb1.size; have := HBW.out.size; show _ ≤ _; omega) _) (by have := hb1.size; have := HBW.out.size; show _ ≤ _; omega) _⟩
  case rest =>
    obtain ⟨g, s2, A2, n2, c2, rfl, hN, hB⟩ := hcut
    obtain ⟨q0, q1, q2, q3, q4⟩ := hN
    obtain ⟨e1, e2⟩ := q4.sign
    clear N1 N2 k0 k1 k2 k3 k4 l0 l1 l2 l3 l4 z1 z2
    by_cases h0 : n2 = 0
    · have R : Hid (cmpI x y = 0) := Lib.hid (by have := e2.1 h0; unfold cmpI; rw [if_neg (by omega), if_neg (by omega)])
      subst h0
      clear e1 e2
      go_wp2_with fail
      go_ret
      exact ⟨ret_one R.out.symm, hB⟩
    · have hne : x + -y ≠ 0 := fun k => h0 (e2.2 k)
      have hn2 : 0 < n2 := by omega
      cases s2
      · have R : Hid (cmpI x y = 1) := Lib.hid (by have := of_decide_eq_false e1.symm; unfold cmpI; rw [if_pos (by omega)])
        clear e1 e2 hne h0
        go_wp2_with fail
        go_ret
        exact ⟨ret_one R.out.symm, hB⟩
      · have R : Hid (cmpI x y = -1) := Lib.hid (by have := of_decide_eq_true e1.symm; unfold cmpI; rw [if_neg (by omega), if_pos (by omega)])
        clear e1 e2 hne h0
        go_wp2_with fail
        go_ret
        exact ⟨ret_one R.out.symm, hB⟩
end Go.Proofs.Ytmafkknnekkcdaa
