/-
  No cell of these rows narrows 'for every input' (looked for: loops, veiled, ifaces, maps, wideKeys, modest, calm, conditions, laid).
  DERIVED. THE GIVEN ROWS OF THIS SEAT. 5 by the template 'for every input the law returns true; each argument reads behind the call as it read before'; 0 by the template 'total and deterministic' (their statements: YtncankjgmchckaaTotals.lean).
  GIVEN WITH THE SEED: the statements are not yours to turn. If you find one false, say at which input.
  Laid BY PROGRAM, IN A SANDBOX (cutbox-rows.mjs): the forced cells as the released guide's own fill.sh prints them over the translation 534a8cd77b65b37b… (all of the seat's roots in one cut). By AI agents, Wed Nov 11 2026. No macro, syntax, notation, axiom, sorry.
-/
import Derived.Test.YtncankjgmchckaaChecked
import GoSem.Claim
import GoSem.ClaimJoined
import GoSem.ClaimMapViews
import Derived.JoinedTies
import Derived.KernelRfl
namespace Go.Proofs.Ytncankjgmchckaa
/- THE CELL 'sum', in the pinned program and in every row, IS THE sha256 OF THE DUMP (.gsa) THAT YtncankjgmchckaaProg.lean LOADS. Nothing in Lean hashes anything: it is a label: what it is worth is what the hold of that sum in a sandbox is worth. -/
noncomputable def Try.pinned : Pinned := { name := "ytncankjgmchckaa", sum := "534a8cd77b65b37bec87e4e6ede3e0c45ed87eca2613af3c1ef64ba0fd0fe6fc", checked := Try.checked }
namespace Rows
def none {H : Type} : Left H := { results := [], args := [] }

/-- 'noonmarklaw01.SafeAnswers': WHATEVER THE INPUT: true; the input reads as it did. -/
def safeAnswersSpec : ChangeSpec := { name := "safeAnswers", fn := fun _ => fun
  | [d1, d2] => { results := [.lit (.bool true)], args := [d1, d2] }
  | _ => none }
def safeAnswersRow : OpenClaim := { program := "ytncankjgmchckaa", sum := "534a8cd77b65b37bec87e4e6ede3e0c45ed87eca2613af3c1ef64ba0fd0fe6fc", func := "noonmark/noonmarklaw01.SafeAnswers", spec := "safeAnswers", inPlace := ["math/bits.Add64"], named := ["math/bits.divideError", "math/bits.overflowError"], apart := false }
def SafeAnswersSaid : Prop := safeAnswersRow.holds Try.pinned (OpenSpec.ofChange safeAnswersSpec)

/-- ITS FALSE NEIGHBOUR: 'it returns false'. Refute it at one input. -/
def safeAnswersWrong : ChangeSpec := { name := "safeAnswers", fn := fun _ => fun
  | [d1, d2] => { results := [.lit (.bool false)], args := [d1, d2] }
  | _ => none }
def SafeAnswersWrongFalsely : Prop := safeAnswersRow.holds Try.pinned (OpenSpec.ofChange safeAnswersWrong)

/-- 'noonmarklaw01.SafeSums': WHATEVER THE INPUT: true; the input reads as it did. -/
def safeSumsSpec : ChangeSpec := { name := "safeSums", fn := fun _ => fun
  | [d1, d2] => { results := [.lit (.bool true)], args := [d1, d2] }
  | _ => none }
def safeSumsRow : OpenClaim := { program := "ytncankjgmchckaa", sum := "534a8cd77b65b37bec87e4e6ede3e0c45ed87eca2613af3c1ef64ba0fd0fe6fc", func := "noonmark/noonmarklaw01.SafeSums", spec := "safeSums", inPlace := ["math/bits.Add64"], named := ["math/bits.divideError", "math/bits.overflowError"], apart := false }
def SafeSumsSaid : Prop := safeSumsRow.holds Try.pinned (OpenSpec.ofChange safeSumsSpec)

/-- ITS FALSE NEIGHBOUR: 'it returns false'. Refute it at one input. -/
def safeSumsWrong : ChangeSpec := { name := "safeSums", fn := fun _ => fun
  | [d1, d2] => { results := [.lit (.bool false)], args := [d1, d2] }
  | _ => none }
def SafeSumsWrongFalsely : Prop := safeSumsRow.holds Try.pinned (OpenSpec.ofChange safeSumsWrong)

/-- 'noonmarklaw01.SafeRatios': WHATEVER THE INPUT: true; the input reads as it did. -/
def safeRatiosSpec : ChangeSpec := { name := "safeRatios", fn := fun _ => fun
  | [d1, d2, d3] => { results := [.lit (.bool true)], args := [d1, d2, d3] }
  | _ => none }
def safeRatiosRow : OpenClaim := { program := "ytncankjgmchckaa", sum := "534a8cd77b65b37bec87e4e6ede3e0c45ed87eca2613af3c1ef64ba0fd0fe6fc", func := "noonmark/noonmarklaw01.SafeRatios", spec := "safeRatios", inPlace := ["math/bits.Add64"], named := ["math/bits.divideError", "math/bits.overflowError"], apart := false }
def SafeRatiosSaid : Prop := safeRatiosRow.holds Try.pinned (OpenSpec.ofChange safeRatiosSpec)

/-- ITS FALSE NEIGHBOUR: 'it returns false'. Refute it at one input. -/
def safeRatiosWrong : ChangeSpec := { name := "safeRatios", fn := fun _ => fun
  | [d1, d2, d3] => { results := [.lit (.bool false)], args := [d1, d2, d3] }
  | _ => none }
def SafeRatiosWrongFalsely : Prop := safeRatiosRow.holds Try.pinned (OpenSpec.ofChange safeRatiosWrong)

/-- 'noonmarklaw01.SafeBack': WHATEVER THE INPUT: true; the input reads as it did. -/
def safeBackSpec : ChangeSpec := { name := "safeBack", fn := fun _ => fun
  | [d1, d2, d3] => { results := [.lit (.bool true)], args := [d1, d2, d3] }
  | _ => none }
def safeBackRow : OpenClaim := { program := "ytncankjgmchckaa", sum := "534a8cd77b65b37bec87e4e6ede3e0c45ed87eca2613af3c1ef64ba0fd0fe6fc", func := "noonmark/noonmarklaw01.SafeBack", spec := "safeBack", inPlace := ["math/bits.Add64"], named := ["math/bits.divideError", "math/bits.overflowError"], apart := false }
def SafeBackSaid : Prop := safeBackRow.holds Try.pinned (OpenSpec.ofChange safeBackSpec)

/-- ITS FALSE NEIGHBOUR: 'it returns false'. Refute it at one input. -/
def safeBackWrong : ChangeSpec := { name := "safeBack", fn := fun _ => fun
  | [d1, d2, d3] => { results := [.lit (.bool false)], args := [d1, d2, d3] }
  | _ => none }
def SafeBackWrongFalsely : Prop := safeBackRow.holds Try.pinned (OpenSpec.ofChange safeBackWrong)

/-- 'noonmarklaw01.SafeRises': WHATEVER THE INPUT: true; the input reads as it did. -/
def safeRisesSpec : ChangeSpec := { name := "safeRises", fn := fun _ => fun
  | [d1, d2, d3, d4] => { results := [.lit (.bool true)], args := [d1, d2, d3, d4] }
  | _ => none }
def safeRisesRow : OpenClaim := { program := "ytncankjgmchckaa", sum := "534a8cd77b65b37bec87e4e6ede3e0c45ed87eca2613af3c1ef64ba0fd0fe6fc", func := "noonmark/noonmarklaw01.SafeRises", spec := "safeRises", inPlace := ["math/bits.Add64"], named := ["math/bits.divideError", "math/bits.overflowError"], apart := false }
def SafeRisesSaid : Prop := safeRisesRow.holds Try.pinned (OpenSpec.ofChange safeRisesSpec)

/-- ITS FALSE NEIGHBOUR: 'it returns false'. Refute it at one input. -/
def safeRisesWrong : ChangeSpec := { name := "safeRises", fn := fun _ => fun
  | [d1, d2, d3, d4] => { results := [.lit (.bool false)], args := [d1, d2, d3, d4] }
  | _ => none }
def SafeRisesWrongFalsely : Prop := safeRisesRow.holds Try.pinned (OpenSpec.ofChange safeRisesWrong)

/- THE SECOND FORM. 'bulk': how many values and letters a reading holds, each counted each time it is reached (what is shared counts as often as it is met; a slice's spare places count too). A statement '..UptoSaid' is the law's where the arguments, and the package variables that the reading takes, are together of bulk at most 1048576: NARROWER than '..Said'. Prove '..Said' where nothing that the law and all that it calls make is longer than what came in: it says more and counts as full. Else prove '..UptoSaid'. A law counts once. -/
mutual
def uptoBulk {H : Type} : DataW H → Nat
  | .lit (.string bytes) => bytes.length + 1
  | .lit _ => 1
  | .nil => 1
  | .ptr d => uptoBulk d + 1
  | .slice elems spare => uptoBulkAll elems + uptoBulkAll spare + 1
  | .agg parts => uptoBulkAll parts + 1
  | .iface _ d => uptoBulk d + 1
  | .map entries => uptoBulkEntries entries + 1
  | .held _ => 1
def uptoBulkAll {H : Type} : List (DataW H) → Nat
  | [] => 0
  | d :: r => uptoBulk d + uptoBulkAll r
def uptoBulkEntries {H : Type} : List (Lit × DataW H) → Nat
  | [] => 0
  | x :: r => uptoBulkEntry x + uptoBulkEntries r
def uptoBulkEntry {H : Type} : Lit × DataW H → Nat
  | (.string bytes, d) => bytes.length + uptoBulk d + 1
  | (_, d) => uptoBulk d + 1
 end
def uptoSmall : (H : Type) → List (DataW H) → Bool := fun _ ds => decide (uptoBulkAll ds ≤ 1048576)
def OpenSpec.upto (s : _root_.Go.ChangeSpec) : _root_.Go.OpenSpec := { _root_.Go.OpenSpec.ofChange s with cond := some uptoSmall }

/-- 'noonmarklaw01.SafeAnswers', WHERE WHAT IT READS IS OF BULK AT MOST 1048576: true; the input reads as it did. -/
def safeAnswersUptoRow : OpenClaim := { program := "ytncankjgmchckaa", sum := "534a8cd77b65b37bec87e4e6ede3e0c45ed87eca2613af3c1ef64ba0fd0fe6fc", func := "noonmark/noonmarklaw01.SafeAnswers", spec := "safeAnswers", inPlace := ["math/bits.Add64"], named := ["math/bits.divideError", "math/bits.overflowError"], apart := false, narrowed := true }
def SafeAnswersUptoSaid : Prop := safeAnswersUptoRow.holds Try.pinned (OpenSpec.upto safeAnswersSpec)

/-- 'noonmarklaw01.SafeSums', WHERE WHAT IT READS IS OF BULK AT MOST 1048576: true; the input reads as it did. -/
def safeSumsUptoRow : OpenClaim := { program := "ytncankjgmchckaa", sum := "534a8cd77b65b37bec87e4e6ede3e0c45ed87eca2613af3c1ef64ba0fd0fe6fc", func := "noonmark/noonmarklaw01.SafeSums", spec := "safeSums", inPlace := ["math/bits.Add64"], named := ["math/bits.divideError", "math/bits.overflowError"], apart := false, narrowed := true }
def SafeSumsUptoSaid : Prop := safeSumsUptoRow.holds Try.pinned (OpenSpec.upto safeSumsSpec)

/-- 'noonmarklaw01.SafeRatios', WHERE WHAT IT READS IS OF BULK AT MOST 1048576: true; the input reads as it did. -/
def safeRatiosUptoRow : OpenClaim := { program := "ytncankjgmchckaa", sum := "534a8cd77b65b37bec87e4e6ede3e0c45ed87eca2613af3c1ef64ba0fd0fe6fc", func := "noonmark/noonmarklaw01.SafeRatios", spec := "safeRatios", inPlace := ["math/bits.Add64"], named := ["math/bits.divideError", "math/bits.overflowError"], apart := false, narrowed := true }
def SafeRatiosUptoSaid : Prop := safeRatiosUptoRow.holds Try.pinned (OpenSpec.upto safeRatiosSpec)

/-- 'noonmarklaw01.SafeBack', WHERE WHAT IT READS IS OF BULK AT MOST 1048576: true; the input reads as it did. -/
def safeBackUptoRow : OpenClaim := { program := "ytncankjgmchckaa", sum := "534a8cd77b65b37bec87e4e6ede3e0c45ed87eca2613af3c1ef64ba0fd0fe6fc", func := "noonmark/noonmarklaw01.SafeBack", spec := "safeBack", inPlace := ["math/bits.Add64"], named := ["math/bits.divideError", "math/bits.overflowError"], apart := false, narrowed := true }
def SafeBackUptoSaid : Prop := safeBackUptoRow.holds Try.pinned (OpenSpec.upto safeBackSpec)

/-- 'noonmarklaw01.SafeRises', WHERE WHAT IT READS IS OF BULK AT MOST 1048576: true; the input reads as it did. -/
def safeRisesUptoRow : OpenClaim := { program := "ytncankjgmchckaa", sum := "534a8cd77b65b37bec87e4e6ede3e0c45ed87eca2613af3c1ef64ba0fd0fe6fc", func := "noonmark/noonmarklaw01.SafeRises", spec := "safeRises", inPlace := ["math/bits.Add64"], named := ["math/bits.divideError", "math/bits.overflowError"], apart := false, narrowed := true }
def SafeRisesUptoSaid : Prop := safeRisesUptoRow.holds Try.pinned (OpenSpec.upto safeRisesSpec)

end Rows
end Go.Proofs.Ytncankjgmchckaa
