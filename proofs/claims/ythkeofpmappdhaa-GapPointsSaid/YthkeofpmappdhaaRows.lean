/-
  No cell of these rows narrows 'for every input' (looked for: loops, veiled, ifaces, maps, wideKeys, modest, calm, conditions, laid).
  DERIVED. THE GIVEN ROWS OF THIS SEAT. 4 by the template 'for every input the law returns true; each argument reads behind the call as it read before'; 0 by the template 'total and deterministic' (their statements: YthkeofpmappdhaaTotals.lean).
  GIVEN WITH THE SEED: the statements are not yours to turn. If you find one false, say at which input.
  Laid BY PROGRAM, IN A SANDBOX (cutbox-rows.mjs): the forced cells as the released guide's own fill.sh prints them over the translation c265454e46694efd… (all of the seat's roots in one cut). By AI agents, Wed Nov 11 2026. No macro, syntax, notation, axiom, sorry.
-/
import Derived.Test.YthkeofpmappdhaaChecked
import GoSem.Claim
import GoSem.ClaimJoined
import GoSem.ClaimMapViews
import Derived.JoinedTies
import Derived.KernelRfl
namespace Go.Proofs.Ythkeofpmappdhaa
/- THE CELL 'sum', in the pinned program and in every row, IS THE sha256 OF THE DUMP (.gsa) THAT YthkeofpmappdhaaProg.lean LOADS. Nothing in Lean hashes anything: it is a label: what it is worth is what the hold of that sum in a sandbox is worth. -/
noncomputable def Try.pinned : Pinned := { name := "ythkeofpmappdhaa", sum := "c265454e46694efd8db2b4a65613f90caff1f58dc6d761fffe6dcda2125ec22e", checked := Try.checked }
namespace Rows
def none {H : Type} : Left H := { results := [], args := [] }

/-- 'noonmarklaw03.GapAnswers': WHATEVER THE INPUT: true; the input reads as it did. -/
def gapAnswersSpec : ChangeSpec := { name := "gapAnswers", fn := fun _ => fun
  | [d1, d2, d3, d4] => { results := [.lit (.bool true)], args := [d1, d2, d3, d4] }
  | _ => none }
def gapAnswersRow : OpenClaim := { program := "ythkeofpmappdhaa", sum := "c265454e46694efd8db2b4a65613f90caff1f58dc6d761fffe6dcda2125ec22e", func := "noonmark/noonmarklaw03.GapAnswers", spec := "gapAnswers", unfollowed := true, recurses := true, apart := false }
def GapAnswersSaid : Prop := gapAnswersRow.holds Try.pinned (OpenSpec.ofChange gapAnswersSpec)

/-- ITS FALSE NEIGHBOUR: 'it returns false'. Refute it at one input. -/
def gapAnswersWrong : ChangeSpec := { name := "gapAnswers", fn := fun _ => fun
  | [d1, d2, d3, d4] => { results := [.lit (.bool false)], args := [d1, d2, d3, d4] }
  | _ => none }
def GapAnswersWrongFalsely : Prop := gapAnswersRow.holds Try.pinned (OpenSpec.ofChange gapAnswersWrong)

/-- 'noonmarklaw03.GapLists': WHATEVER THE INPUT: true; the input reads as it did. -/
def gapListsSpec : ChangeSpec := { name := "gapLists", fn := fun _ => fun
  | [d] => { results := [.lit (.bool true)], args := [d] }
  | _ => none }
def gapListsRow : OpenClaim := { program := "ythkeofpmappdhaa", sum := "c265454e46694efd8db2b4a65613f90caff1f58dc6d761fffe6dcda2125ec22e", func := "noonmark/noonmarklaw03.GapLists", spec := "gapLists", unfollowed := true, recurses := true, apart := false }
def GapListsSaid : Prop := gapListsRow.holds Try.pinned (OpenSpec.ofChange gapListsSpec)

/-- ITS FALSE NEIGHBOUR: 'it returns false'. Refute it at one input. -/
def gapListsWrong : ChangeSpec := { name := "gapLists", fn := fun _ => fun
  | [d] => { results := [.lit (.bool false)], args := [d] }
  | _ => none }
def GapListsWrongFalsely : Prop := gapListsRow.holds Try.pinned (OpenSpec.ofChange gapListsWrong)

/-- 'noonmarklaw03.GapPoints': WHATEVER THE INPUT: true; the input reads as it did. -/
def gapPointsSpec : ChangeSpec := { name := "gapPoints", fn := fun _ => fun
  | [d1, d2, d3] => { results := [.lit (.bool true)], args := [d1, d2, d3] }
  | _ => none }
def gapPointsRow : OpenClaim := { program := "ythkeofpmappdhaa", sum := "c265454e46694efd8db2b4a65613f90caff1f58dc6d761fffe6dcda2125ec22e", func := "noonmark/noonmarklaw03.GapPoints", spec := "gapPoints", unfollowed := true, recurses := true, apart := false }
def GapPointsSaid : Prop := gapPointsRow.holds Try.pinned (OpenSpec.ofChange gapPointsSpec)

/-- ITS FALSE NEIGHBOUR: 'it returns false'. Refute it at one input. -/
def gapPointsWrong : ChangeSpec := { name := "gapPoints", fn := fun _ => fun
  | [d1, d2, d3] => { results := [.lit (.bool false)], args := [d1, d2, d3] }
  | _ => none }
def GapPointsWrongFalsely : Prop := gapPointsRow.holds Try.pinned (OpenSpec.ofChange gapPointsWrong)

/-- 'noonmarklaw03.GapBack': WHATEVER THE INPUT: true; the input reads as it did. -/
def gapBackSpec : ChangeSpec := { name := "gapBack", fn := fun _ => fun
  | [d1, d2, d3, d4] => { results := [.lit (.bool true)], args := [d1, d2, d3, d4] }
  | _ => none }
def gapBackRow : OpenClaim := { program := "ythkeofpmappdhaa", sum := "c265454e46694efd8db2b4a65613f90caff1f58dc6d761fffe6dcda2125ec22e", func := "noonmark/noonmarklaw03.GapBack", spec := "gapBack", unfollowed := true, recurses := true, apart := false }
def GapBackSaid : Prop := gapBackRow.holds Try.pinned (OpenSpec.ofChange gapBackSpec)

/-- ITS FALSE NEIGHBOUR: 'it returns false'. Refute it at one input. -/
def gapBackWrong : ChangeSpec := { name := "gapBack", fn := fun _ => fun
  | [d1, d2, d3, d4] => { results := [.lit (.bool false)], args := [d1, d2, d3, d4] }
  | _ => none }
def GapBackWrongFalsely : Prop := gapBackRow.holds Try.pinned (OpenSpec.ofChange gapBackWrong)

/- THE SECOND FORM. 'bulk': how many values and letters a reading holds, each counted each time it is reached (what is shared counts as often as it is met; a slice's spare places count too). A statement '..UptoSaid' is the law's where the arguments, and the package variables that the reading takes, are together of bulk at most 1048576: NARROWER than '..Said'. Prove '..Said' where nothing that the law and all that it calls make is longer than what came in: it says more and counts as full. Else prove '..UptoSaid'. A law counts once. -/
mutual
def uptoBulk {H : Type} : DataW H → Nat
  | .lit (.string bytes) => bytes.length + 1
  | .lit _ => 1
  | .nil => 1
  | .ptr d => uptoBulk d + 1
  | .slice elems spare => uptoBulkAll elems + uptoBulkAll spare + 1
  | .agg parts => uptoBulkAll parts + 1
  | .iface _ d => uptoBulk d + 1
  | .map entries => uptoBulkEntries entries + 1
  | .held _ => 1
def uptoBulkAll {H : Type} : List (DataW H) → Nat
  | [] => 0
  | d :: r => uptoBulk d + uptoBulkAll r
def uptoBulkEntries {H : Type} : List (Lit × DataW H) → Nat
  | [] => 0
  | x :: r => uptoBulkEntry x + uptoBulkEntries r
def uptoBulkEntry {H : Type} : Lit × DataW H → Nat
  | (.string bytes, d) => bytes.length + uptoBulk d + 1
  | (_, d) => uptoBulk d + 1
 end
def uptoSmall : (H : Type) → List (DataW H) → Bool := fun _ ds => decide (uptoBulkAll ds ≤ 1048576)
def OpenSpec.upto (s : _root_.Go.ChangeSpec) : _root_.Go.OpenSpec := { _root_.Go.OpenSpec.ofChange s with cond := some uptoSmall }

/-- 'noonmarklaw03.GapAnswers', WHERE WHAT IT READS IS OF BULK AT MOST 1048576: true; the input reads as it did. -/
def gapAnswersUptoRow : OpenClaim := { program := "ythkeofpmappdhaa", sum := "c265454e46694efd8db2b4a65613f90caff1f58dc6d761fffe6dcda2125ec22e", func := "noonmark/noonmarklaw03.GapAnswers", spec := "gapAnswers", unfollowed := true, recurses := true, apart := false, narrowed := true }
def GapAnswersUptoSaid : Prop := gapAnswersUptoRow.holds Try.pinned (OpenSpec.upto gapAnswersSpec)

/-- 'noonmarklaw03.GapLists', WHERE WHAT IT READS IS OF BULK AT MOST 1048576: true; the input reads as it did. -/
def gapListsUptoRow : OpenClaim := { program := "ythkeofpmappdhaa", sum := "c265454e46694efd8db2b4a65613f90caff1f58dc6d761fffe6dcda2125ec22e", func := "noonmark/noonmarklaw03.GapLists", spec := "gapLists", unfollowed := true, recurses := true, apart := false, narrowed := true }
def GapListsUptoSaid : Prop := gapListsUptoRow.holds Try.pinned (OpenSpec.upto gapListsSpec)

/-- 'noonmarklaw03.GapPoints', WHERE WHAT IT READS IS OF BULK AT MOST 1048576: true; the input reads as it did. -/
def gapPointsUptoRow : OpenClaim := { program := "ythkeofpmappdhaa", sum := "c265454e46694efd8db2b4a65613f90caff1f58dc6d761fffe6dcda2125ec22e", func := "noonmark/noonmarklaw03.GapPoints", spec := "gapPoints", unfollowed := true, recurses := true, apart := false, narrowed := true }
def GapPointsUptoSaid : Prop := gapPointsUptoRow.holds Try.pinned (OpenSpec.upto gapPointsSpec)

/-- 'noonmarklaw03.GapBack', WHERE WHAT IT READS IS OF BULK AT MOST 1048576: true; the input reads as it did. -/
def gapBackUptoRow : OpenClaim := { program := "ythkeofpmappdhaa", sum := "c265454e46694efd8db2b4a65613f90caff1f58dc6d761fffe6dcda2125ec22e", func := "noonmark/noonmarklaw03.GapBack", spec := "gapBack", unfollowed := true, recurses := true, apart := false, narrowed := true }
def GapBackUptoSaid : Prop := gapBackUptoRow.holds Try.pinned (OpenSpec.upto gapBackSpec)

end Rows
end Go.Proofs.Ythkeofpmappdhaa
