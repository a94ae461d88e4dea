/- CodeOne, walked. -/
import Derived.Test.YtcihojimojipiaaCodV
import Derived.Test.YtcihojimojipiaaCopyBytes
namespace Go.Proofs.Ytcihojimojipiaa
open Go.RowKit
variable {Rd : World → Nat → Nat → Nat → List Int → Int → Prop}

theorem stE_err {bs : List Int} {e : Int} (h : e ≠ 0) : stE bs e = e := by unfold stE; rw [if_neg (fun k => h k.1)]

set_option maxRecDepth 100000 in
set_option maxHeartbeats 4000000 in
theorem codeOne_any (G : CodeC Rd) (v : Value) (bs : List Int) (w : World) (hl : Lst w w.heap.size .u8 v bs) (hb : IsByte bs) :
    Calls Try.prog 6 #[v] w fun e w' => e = .returned (.bool true) ∧ Below w.heap.size w w' := by
  obtain ⟨A, c, rfl⟩ := hl.len
  have C0 := Lib.hid (alive6_any G w)
  by_cases hlen : 100 < bs.length
  · have h1 : (100 : Int) < (bs.length : Int) := by omega
    clear G hl hb
    go_enter Try.func6, Try.ntmps6
    go_wp2_with fail
    refine (C0.out).mono ?_; rintro e w1 ⟨rfl, hB⟩
    go_wp2_with fail
    go_ret
    exact ⟨rfl, hB⟩
  · have h1 : ¬ (100 : Int) < (bs.length : Int) := by omega
    have CC : Hid (∀ W, Below w.heap.size w W → Calls Try.prog 20 #[.slice A bs.length c] W (Copied 5 .u8 W bs)) := Lib.hid fun W h => copyBytes_any _ bs W ((hl.below h).more h.size) (by omega)
    have HL := Lib.hid hl
    have CN : Hid (∀ W u, Lst W W.heap.size .u8 u bs → Calls Try.prog 21 #[u] W fun e w' => ∃ g, e = .returned (ptrV g) ∧ Rd w' g W.heap.size w'.heap.size bs 0 ∧ Below W.heap.size W w') := Lib.hid fun W u h => G.new u _ W h hb (by omega)
    have CU : Hid (∀ W g L U, Rd W g L U bs 0 → Calls Try.prog 23 #[ptrV g] W fun e' w' => e' = .returned (.int .u64 (readU bs).1) ∧ Rd w' g L U (readU bs).2.1 (readU bs).2.2 ∧ Aside L U W w') := Lib.hid fun W g L U h => by
      have := G.uint W g L U _ 0 h hb (by omega)
      rwa [show stU bs 0 = readU bs from if_pos rfl] at this
    have CE := Lib.hid fun W g L U t e (h : Rd W g L U t e) => G.end_ W g L U t e h
    have CR := Lib.hid fun W g L U t e (h : Rd W g L U t e) => G.err W g L U t e h
    have CS := Lib.hid fun W u zs h1 h2 h3 => G.uints u zs W h1 h2 h3
    have KP := Lib.hid fun (W W' : World) g L U bs e (h : Rd W g L U bs e) (hb : Below W.heap.size W W') => G.below h hb
    have HQ : Hid ((∃ e1, stE (readU bs).2.1 (readU bs).2.2 = e1 ∧ (e1 = 10 ∨ e1 = 15)) ∨ (∃ m : Nat, m < 18446744073709551616 ∧ bs = lebL m ∧ readU bs = ((m : Int), [], 0))) := Lib.hid (by
      rcases readU_err bs with h | ⟨-, -, h | h⟩
      · by_cases ht : (readU bs).2.1 = []
        · have hu : readU bs = ((readU bs).1, [], 0) := Prod.ext rfl (Prod.ext ht h)
          obtain ⟨m, k1, k2, k3⟩ := read_one hb hu
          exact Or.inr ⟨m, k3, by rw [k1]; simp, by rw [hu, k2]⟩
        · refine Or.inl ⟨10, ?_, Or.inl rfl⟩
          unfold stE
          rw [if_pos ⟨h, by cases hh : (readU bs).2.1 with | nil => exact absurd hh ht | cons a t => simp⟩]
      · exact Or.inl ⟨10, by rw [stE_err (by omega), h], Or.inl rfl⟩
      · exact Or.inl ⟨15, by rw [stE_err (by omega), h], Or.inr rfl⟩)
    clear G hl hb
    generalize readU bs = st at *
    obtain ⟨x, t, e1⟩ := st
    dsimp only at CU HQ
    go_enter Try.func6, Try.ntmps6
    go_wp2_with fail
    refine (C0.out).mono ?_; rintro e w1 ⟨rfl, hB⟩
    go_wp2_with fail
    refine (CC.out _ hB).mono ?_; rintro e w2 ⟨u, rfl, hO, h⟩
    replace hB := ext_step hB h
    have HLu := hO.lst
    clear h CC C0
    go_wp2_with fail
    refine (CN.out _ _ HLu).mono ?_; rintro e w3 ⟨g, rfl, hR, h⟩
    have hLe := hB.size
    replace hB := ext_step hB h
    clear h CN HLu hO
    generalize w2.heap.size = L at hR hLe
    generalize w3.heap.size = U at hR
    go_wp2_with fail
    refine (CU.out _ _ _ _ hR).mono ?_; rintro e w4 ⟨rfl, h4, hA⟩
    replace hB := ext_aside hB hA hLe
    clear hR hA CU
    go_wp2_with fail
    refine (CE.out _ _ _ _ _ _ h4).mono ?_; rintro e w5 ⟨rfl, h5, hA⟩
    replace hB := ext_aside hB hA hLe
    clear h4 hA CE
    rcases HQ.out with ⟨e2, he, h10⟩ | ⟨m, hm, hbs, hu⟩
    · rw [he] at h5
      rw [he]
      have CR1 := Lib.hid fun W (h : Rd W g L U t e2) => CR.out W g L U _ _ h
      have n0 : (e2 != 0) = true := by rcases h10 with rfl | rfl <;> rfl
      by_cases h0 : bs.length = 0
      · have z0 : ((bs.length : Int) == 0) = true := by simpa using h0
        clear HQ CR CS KP hlen
        go_wp2_with fail
        go_ret
        exact ⟨rfl, hB⟩
      · have z0 : ((bs.length : Int) == 0) = false := by simpa using h0
        clear HQ CR CS hlen h0
        rcases h10 with rfl | rfl
        · go_wp2_with fail
          refine (CR1.out _ h5).mono ?_; rintro e w6 ⟨rfl, h⟩
          replace hB := ext_step hB h
          go_wp2_with fail
          go_ret
          exact ⟨rfl, hB⟩
        · go_wp2_with fail
          refine (CR1.out _ h5).mono ?_; rintro e w6 ⟨rfl, h⟩
          replace hB := ext_step hB h
          have h6 := KP.out _ _ _ _ _ _ _ h5 h
          clear h5 h
          go_wp2_with fail
          refine (CR1.out _ h6).mono ?_; rintro e w7 ⟨rfl, h⟩
          replace hB := ext_step hB h
          go_wp2_with fail
          go_ret
          exact ⟨rfl, hB⟩
    · obtain ⟨rfl, rfl, rfl⟩ : x = (m : Int) ∧ t = [] ∧ e1 = 0 := by
        injection hu with h1 h2
        injection h2 with h2 h3
        exact ⟨h1, h2, h3⟩
      have hle := leb_ten hm
      rw [← hbs] at hle
      have hl10 : (bs.length : Int) ≤ 10 := by omega
      have HU := Lib.hid (lits_new w5 28 .u64 [(m : Int)] _ rfl w5.heap.size 1 (Lib.hid rfl) rfl)
      replace hB := ext_alloc hB (.cells (([(m : Int)] : List Int).map (Value.int .u64)).toArray 28)
      have CA : Hid (∀ W u, Lst W W.heap.size .u64 u [(m : Int)] → Calls Try.prog 17 #[u] W (Copied 5 .u8 W bs)) := Lib.hid fun W u h => by
        have := CS.out W u _ h (by intro c hc; simp at hc; omega) (by simp)
        rwa [show uintsL [(m : Int)] = lebL m by simp [uintsL], ← hbs] at this
      clear HQ CR CS KP h5 hle hbs hu
      rw [show stE [] 0 = 0 from rfl]
      go_wp2_with fail
      refine (CA.out _ _ HU.out).mono ?_; rintro e w6 ⟨u, rfl, hO, h⟩
      replace hB := ext_step hB h
      have CSB := Lib.hid (sameBytes_any _ _ bs w6 hO.lst ((HL.out.below hB).more hB.size) (by omega))
      clear h CA HU hO
      go_wp2_with fail
      refine (CSB.out).mono ?_; rintro e w7 ⟨rfl, n, hw⟩
      replace hB := ext_drewN' hB hw
      clear CSB hw
      go_wp2_with fail
      go_ret
      exact ⟨rfl, hB⟩
end Go.Proofs.Ytcihojimojipiaa
