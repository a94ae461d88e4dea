/-
  No cell of these rows narrows 'for every input' (looked for: loops, veiled, ifaces, maps, wideKeys, modest, calm, conditions, laid).
  DERIVED. THE GIVEN ROWS OF THIS SEAT. 5 by the template 'for every input the law returns true; each argument reads behind the call as it read before'; 0 by the template 'total and deterministic' (their statements: YtljgfallhnlebaaTotals.lean).
  GIVEN WITH THE SEED: the statements are not yours to turn. If you find one false, say at which input.
  Laid BY PROGRAM, IN A SANDBOX (cutbox-rows.mjs): the forced cells as the released guide's own fill.sh prints them over the translation a4ced58da3fb8946… (all of the seat's roots in one cut). By AI agents, Wed Nov 11 2026. No macro, syntax, notation, axiom, sorry.
-/
import Derived.Test.YtljgfallhnlebaaChecked
import GoSem.Claim
import GoSem.ClaimJoined
import GoSem.ClaimMapViews
import Derived.JoinedTies
import Derived.KernelRfl
namespace Go.Proofs.Ytljgfallhnlebaa
/- THE CELL 'sum', in the pinned program and in every row, IS THE sha256 OF THE DUMP (.gsa) THAT YtljgfallhnlebaaProg.lean LOADS. Nothing in Lean hashes anything: it is a label: what it is worth is what the hold of that sum in a sandbox is worth. -/
noncomputable def Try.pinned : Pinned := { name := "ytljgfallhnlebaa", sum := "a4ced58da3fb8946efbd7d2340d79d97a55088f8548902aa39513f37c614aea8", checked := Try.checked }
namespace Rows
def none {H : Type} : Left H := { results := [], args := [] }

/-- 'noonmarklaw04.DriftAnswers': WHATEVER THE INPUT: true; the input reads as it did. -/
def driftAnswersSpec : ChangeSpec := { name := "driftAnswers", fn := fun _ => fun
  | [d1, d2] => { results := [.lit (.bool true)], args := [d1, d2] }
  | _ => none }
def driftAnswersRow : OpenClaim := { program := "ytljgfallhnlebaa", sum := "a4ced58da3fb8946efbd7d2340d79d97a55088f8548902aa39513f37c614aea8", func := "noonmark/noonmarklaw04.DriftAnswers", spec := "driftAnswers", inPlace := ["math/bits.Sub64"], unfollowed := true, recurses := true, named := ["math/bits.divideError", "math/bits.overflowError"], apart := false }
def DriftAnswersSaid : Prop := driftAnswersRow.holds Try.pinned (OpenSpec.ofChange driftAnswersSpec)

/-- ITS FALSE NEIGHBOUR: 'it returns false'. Refute it at one input. -/
def driftAnswersWrong : ChangeSpec := { name := "driftAnswers", fn := fun _ => fun
  | [d1, d2] => { results := [.lit (.bool false)], args := [d1, d2] }
  | _ => none }
def DriftAnswersWrongFalsely : Prop := driftAnswersRow.holds Try.pinned (OpenSpec.ofChange driftAnswersWrong)

/-- 'noonmarklaw04.DriftRises': WHATEVER THE INPUT: true; the input reads as it did. -/
def driftRisesSpec : ChangeSpec := { name := "driftRises", fn := fun _ => fun
  | [d1, d2, d3] => { results := [.lit (.bool true)], args := [d1, d2, d3] }
  | _ => none }
def driftRisesRow : OpenClaim := { program := "ytljgfallhnlebaa", sum := "a4ced58da3fb8946efbd7d2340d79d97a55088f8548902aa39513f37c614aea8", func := "noonmark/noonmarklaw04.DriftRises", spec := "driftRises", inPlace := ["math/bits.Sub64"], unfollowed := true, recurses := true, named := ["math/bits.divideError", "math/bits.overflowError"], apart := false }
def DriftRisesSaid : Prop := driftRisesRow.holds Try.pinned (OpenSpec.ofChange driftRisesSpec)

/-- ITS FALSE NEIGHBOUR: 'it returns false'. Refute it at one input. -/
def driftRisesWrong : ChangeSpec := { name := "driftRises", fn := fun _ => fun
  | [d1, d2, d3] => { results := [.lit (.bool false)], args := [d1, d2, d3] }
  | _ => none }
def DriftRisesWrongFalsely : Prop := driftRisesRow.holds Try.pinned (OpenSpec.ofChange driftRisesWrong)

/-- 'noonmarklaw04.DriftHonest': WHATEVER THE INPUT: true; the input reads as it did. -/
def driftHonestSpec : ChangeSpec := { name := "driftHonest", fn := fun _ => fun
  | [d1, d2] => { results := [.lit (.bool true)], args := [d1, d2] }
  | _ => none }
def driftHonestRow : OpenClaim := { program := "ytljgfallhnlebaa", sum := "a4ced58da3fb8946efbd7d2340d79d97a55088f8548902aa39513f37c614aea8", func := "noonmark/noonmarklaw04.DriftHonest", spec := "driftHonest", inPlace := ["math/bits.Sub64"], unfollowed := true, recurses := true, named := ["math/bits.divideError", "math/bits.overflowError"], apart := false }
def DriftHonestSaid : Prop := driftHonestRow.holds Try.pinned (OpenSpec.ofChange driftHonestSpec)

/-- ITS FALSE NEIGHBOUR: 'it returns false'. Refute it at one input. -/
def driftHonestWrong : ChangeSpec := { name := "driftHonest", fn := fun _ => fun
  | [d1, d2] => { results := [.lit (.bool false)], args := [d1, d2] }
  | _ => none }
def DriftHonestWrongFalsely : Prop := driftHonestRow.holds Try.pinned (OpenSpec.ofChange driftHonestWrong)

/-- 'noonmarklaw04.DriftSound': WHATEVER THE INPUT: true; the input reads as it did. -/
def driftSoundSpec : ChangeSpec := { name := "driftSound", fn := fun _ => fun
  | [d1, d2] => { results := [.lit (.bool true)], args := [d1, d2] }
  | _ => none }
def driftSoundRow : OpenClaim := { program := "ytljgfallhnlebaa", sum := "a4ced58da3fb8946efbd7d2340d79d97a55088f8548902aa39513f37c614aea8", func := "noonmark/noonmarklaw04.DriftSound", spec := "driftSound", inPlace := ["math/bits.Sub64"], unfollowed := true, recurses := true, named := ["math/bits.divideError", "math/bits.overflowError"], apart := false }
def DriftSoundSaid : Prop := driftSoundRow.holds Try.pinned (OpenSpec.ofChange driftSoundSpec)

/-- ITS FALSE NEIGHBOUR: 'it returns false'. Refute it at one input. -/
def driftSoundWrong : ChangeSpec := { name := "driftSound", fn := fun _ => fun
  | [d1, d2] => { results := [.lit (.bool false)], args := [d1, d2] }
  | _ => none }
def DriftSoundWrongFalsely : Prop := driftSoundRow.holds Try.pinned (OpenSpec.ofChange driftSoundWrong)

/-- 'noonmarklaw04.DriftRates': WHATEVER THE INPUT: true; the input reads as it did. -/
def driftRatesSpec : ChangeSpec := { name := "driftRates", fn := fun _ => fun
  | [d1, d2, d3, d4] => { results := [.lit (.bool true)], args := [d1, d2, d3, d4] }
  | _ => none }
def driftRatesRow : OpenClaim := { program := "ytljgfallhnlebaa", sum := "a4ced58da3fb8946efbd7d2340d79d97a55088f8548902aa39513f37c614aea8", func := "noonmark/noonmarklaw04.DriftRates", spec := "driftRates", inPlace := ["math/bits.Sub64"], unfollowed := true, recurses := true, named := ["math/bits.divideError", "math/bits.overflowError"], apart := false }
def DriftRatesSaid : Prop := driftRatesRow.holds Try.pinned (OpenSpec.ofChange driftRatesSpec)

/-- ITS FALSE NEIGHBOUR: 'it returns false'. Refute it at one input. -/
def driftRatesWrong : ChangeSpec := { name := "driftRates", fn := fun _ => fun
  | [d1, d2, d3, d4] => { results := [.lit (.bool false)], args := [d1, d2, d3, d4] }
  | _ => none }
def DriftRatesWrongFalsely : Prop := driftRatesRow.holds Try.pinned (OpenSpec.ofChange driftRatesWrong)

/- THE SECOND FORM. 'bulk': how many values and letters a reading holds, each counted each time it is reached (what is shared counts as often as it is met; a slice's spare places count too). A statement '..UptoSaid' is the law's where the arguments, and the package variables that the reading takes, are together of bulk at most 1048576: NARROWER than '..Said'. Prove '..Said' where nothing that the law and all that it calls make is longer than what came in: it says more and counts as full. Else prove '..UptoSaid'. A law counts once. -/
mutual
def uptoBulk {H : Type} : DataW H → Nat
  | .lit (.string bytes) => bytes.length + 1
  | .lit _ => 1
  | .nil => 1
  | .ptr d => uptoBulk d + 1
  | .slice elems spare => uptoBulkAll elems + uptoBulkAll spare + 1
  | .agg parts => uptoBulkAll parts + 1
  | .iface _ d => uptoBulk d + 1
  | .map entries => uptoBulkEntries entries + 1
  | .held _ => 1
def uptoBulkAll {H : Type} : List (DataW H) → Nat
  | [] => 0
  | d :: r => uptoBulk d + uptoBulkAll r
def uptoBulkEntries {H : Type} : List (Lit × DataW H) → Nat
  | [] => 0
  | x :: r => uptoBulkEntry x + uptoBulkEntries r
def uptoBulkEntry {H : Type} : Lit × DataW H → Nat
  | (.string bytes, d) => bytes.length + uptoBulk d + 1
  | (_, d) => uptoBulk d + 1
 end
def uptoSmall : (H : Type) → List (DataW H) → Bool := fun _ ds => decide (uptoBulkAll ds ≤ 1048576)
def OpenSpec.upto (s : _root_.Go.ChangeSpec) : _root_.Go.OpenSpec := { _root_.Go.OpenSpec.ofChange s with cond := some uptoSmall }

/-- 'noonmarklaw04.DriftAnswers', WHERE WHAT IT READS IS OF BULK AT MOST 1048576: true; the input reads as it did. -/
def driftAnswersUptoRow : OpenClaim := { program := "ytljgfallhnlebaa", sum := "a4ced58da3fb8946efbd7d2340d79d97a55088f8548902aa39513f37c614aea8", func := "noonmark/noonmarklaw04.DriftAnswers", spec := "driftAnswers", inPlace := ["math/bits.Sub64"], unfollowed := true, recurses := true, named := ["math/bits.divideError", "math/bits.overflowError"], apart := false, narrowed := true }
def DriftAnswersUptoSaid : Prop := driftAnswersUptoRow.holds Try.pinned (OpenSpec.upto driftAnswersSpec)

/-- 'noonmarklaw04.DriftRises', WHERE WHAT IT READS IS OF BULK AT MOST 1048576: true; the input reads as it did. -/
def driftRisesUptoRow : OpenClaim := { program := "ytljgfallhnlebaa", sum := "a4ced58da3fb8946efbd7d2340d79d97a55088f8548902aa39513f37c614aea8", func := "noonmark/noonmarklaw04.DriftRises", spec := "driftRises", inPlace := ["math/bits.Sub64"], unfollowed := true, recurses := true, named := ["math/bits.divideError", "math/bits.overflowError"], apart := false, narrowed := true }
def DriftRisesUptoSaid : Prop := driftRisesUptoRow.holds Try.pinned (OpenSpec.upto driftRisesSpec)

/-- 'noonmarklaw04.DriftHonest', WHERE WHAT IT READS IS OF BULK AT MOST 1048576: true; the input reads as it did. -/
def driftHonestUptoRow : OpenClaim := { program := "ytljgfallhnlebaa", sum := "a4ced58da3fb8946efbd7d2340d79d97a55088f8548902aa39513f37c614aea8", func := "noonmark/noonmarklaw04.DriftHonest", spec := "driftHonest", inPlace := ["math/bits.Sub64"], unfollowed := true, recurses := true, named := ["math/bits.divideError", "math/bits.overflowError"], apart := false, narrowed := true }
def DriftHonestUptoSaid : Prop := driftHonestUptoRow.holds Try.pinned (OpenSpec.upto driftHonestSpec)

/-- 'noonmarklaw04.DriftSound', WHERE WHAT IT READS IS OF BULK AT MOST 1048576: true; the input reads as it did. -/
def driftSoundUptoRow : OpenClaim := { program := "ytljgfallhnlebaa", sum := "a4ced58da3fb8946efbd7d2340d79d97a55088f8548902aa39513f37c614aea8", func := "noonmark/noonmarklaw04.DriftSound", spec := "driftSound", inPlace := ["math/bits.Sub64"], unfollowed := true, recurses := true, named := ["math/bits.divideError", "math/bits.overflowError"], apart := false, narrowed := true }
def DriftSoundUptoSaid : Prop := driftSoundUptoRow.holds Try.pinned (OpenSpec.upto driftSoundSpec)

/-- 'noonmarklaw04.DriftRates', WHERE WHAT IT READS IS OF BULK AT MOST 1048576: true; the input reads as it did. -/
def driftRatesUptoRow : OpenClaim := { program := "ytljgfallhnlebaa", sum := "a4ced58da3fb8946efbd7d2340d79d97a55088f8548902aa39513f37c614aea8", func := "noonmark/noonmarklaw04.DriftRates", spec := "driftRates", inPlace := ["math/bits.Sub64"], unfollowed := true, recurses := true, named := ["math/bits.divideError", "math/bits.overflowError"], apart := false, narrowed := true }
def DriftRatesUptoSaid : Prop := driftRatesUptoRow.holds Try.pinned (OpenSpec.upto driftRatesSpec)

end Rows
end Go.Proofs.Ytljgfallhnlebaa
