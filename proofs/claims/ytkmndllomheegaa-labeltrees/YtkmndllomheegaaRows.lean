/-
  No cell of these rows narrows 'for every input' (looked for: loops, veiled, ifaces, maps, wideKeys, modest, calm, conditions, laid).
  DERIVED. THE GIVEN ROWS OF THIS SEAT. 4 by the template 'for every input the law returns true; each argument reads behind the call as it read before'; 0 by the template 'total and deterministic' (their statements: YtkmndllomheegaaTotals.lean).
  GIVEN WITH THE SEED: the statements are not yours to turn. If you find one false, say at which input.
  Laid BY PROGRAM, IN A SANDBOX (cutbox-rows.mjs): the forced cells as the released guide's own fill.sh prints them over the translation d888606b30e453ae… (all of the seat's roots in one cut). By AI agents, Wed Nov 11 2026. No macro, syntax, notation, axiom, sorry.
-/
import Derived.Test.YtkmndllomheegaaChecked
import GoSem.Claim
import GoSem.ClaimJoined
import GoSem.ClaimMapViews
import Derived.JoinedTies
import Derived.KernelRfl
namespace Go.Proofs.Ytkmndllomheegaa
/- THE CELL 'sum', in the pinned program and in every row, IS THE sha256 OF THE DUMP (.gsa) THAT YtkmndllomheegaaProg.lean LOADS. Nothing in Lean hashes anything: it is a label: what it is worth is what the hold of that sum in a sandbox is worth. -/
noncomputable def Try.pinned : Pinned := { name := "ytkmndllomheegaa", sum := "d888606b30e453ae1ee1ea3d03855c42bcc89f79d55d66a1d80040e5ab95e4b6", checked := Try.checked }
namespace Rows
def none {H : Type} : Left H := { results := [], args := [] }

/-- 'rickyardlaw11.LabelQueues': WHATEVER THE INPUT: true; the input reads as it did. -/
def labelQueuesSpec : ChangeSpec := { name := "labelQueues", fn := fun _ => fun
  | [d] => { results := [.lit (.bool true)], args := [d] }
  | _ => none }
def labelQueuesRow : OpenClaim := { program := "ytkmndllomheegaa", sum := "d888606b30e453ae1ee1ea3d03855c42bcc89f79d55d66a1d80040e5ab95e4b6", func := "rickyard/rickyardlaw11.LabelQueues", spec := "labelQueues", unfollowed := true, recurses := true, apart := false }
def LabelQueuesSaid : Prop := labelQueuesRow.holds Try.pinned (OpenSpec.ofChange labelQueuesSpec)

/-- ITS FALSE NEIGHBOUR: 'it returns false'. Refute it at one input. -/
def labelQueuesWrong : ChangeSpec := { name := "labelQueues", fn := fun _ => fun
  | [d] => { results := [.lit (.bool false)], args := [d] }
  | _ => none }
def LabelQueuesWrongFalsely : Prop := labelQueuesRow.holds Try.pinned (OpenSpec.ofChange labelQueuesWrong)

/-- 'rickyardlaw11.LabelDirs': WHATEVER THE INPUT: true; the input reads as it did. -/
def labelDirsSpec : ChangeSpec := { name := "labelDirs", fn := fun _ => fun
  | [d] => { results := [.lit (.bool true)], args := [d] }
  | _ => none }
def labelDirsRow : OpenClaim := { program := "ytkmndllomheegaa", sum := "d888606b30e453ae1ee1ea3d03855c42bcc89f79d55d66a1d80040e5ab95e4b6", func := "rickyard/rickyardlaw11.LabelDirs", spec := "labelDirs", unfollowed := true, recurses := true, apart := false }
def LabelDirsSaid : Prop := labelDirsRow.holds Try.pinned (OpenSpec.ofChange labelDirsSpec)

/-- ITS FALSE NEIGHBOUR: 'it returns false'. Refute it at one input. -/
def labelDirsWrong : ChangeSpec := { name := "labelDirs", fn := fun _ => fun
  | [d] => { results := [.lit (.bool false)], args := [d] }
  | _ => none }
def LabelDirsWrongFalsely : Prop := labelDirsRow.holds Try.pinned (OpenSpec.ofChange labelDirsWrong)

/-- 'rickyardlaw11.LabelReads': WHATEVER THE INPUT: true; the input reads as it did. -/
def labelReadsSpec : ChangeSpec := { name := "labelReads", fn := fun _ => fun
  | [d] => { results := [.lit (.bool true)], args := [d] }
  | _ => none }
def labelReadsRow : OpenClaim := { program := "ytkmndllomheegaa", sum := "d888606b30e453ae1ee1ea3d03855c42bcc89f79d55d66a1d80040e5ab95e4b6", func := "rickyard/rickyardlaw11.LabelReads", spec := "labelReads", unfollowed := true, recurses := true, apart := false }
def LabelReadsSaid : Prop := labelReadsRow.holds Try.pinned (OpenSpec.ofChange labelReadsSpec)

/-- ITS FALSE NEIGHBOUR: 'it returns false'. Refute it at one input. -/
def labelReadsWrong : ChangeSpec := { name := "labelReads", fn := fun _ => fun
  | [d] => { results := [.lit (.bool false)], args := [d] }
  | _ => none }
def LabelReadsWrongFalsely : Prop := labelReadsRow.holds Try.pinned (OpenSpec.ofChange labelReadsWrong)

/-- 'rickyardlaw11.LabelTrees': WHATEVER THE INPUT: true; the input reads as it did. -/
def labelTreesSpec : ChangeSpec := { name := "labelTrees", fn := fun _ => fun
  | [d] => { results := [.lit (.bool true)], args := [d] }
  | _ => none }
def labelTreesRow : OpenClaim := { program := "ytkmndllomheegaa", sum := "d888606b30e453ae1ee1ea3d03855c42bcc89f79d55d66a1d80040e5ab95e4b6", func := "rickyard/rickyardlaw11.LabelTrees", spec := "labelTrees", unfollowed := true, recurses := true, apart := false }
def LabelTreesSaid : Prop := labelTreesRow.holds Try.pinned (OpenSpec.ofChange labelTreesSpec)

/-- ITS FALSE NEIGHBOUR: 'it returns false'. Refute it at one input. -/
def labelTreesWrong : ChangeSpec := { name := "labelTrees", fn := fun _ => fun
  | [d] => { results := [.lit (.bool false)], args := [d] }
  | _ => none }
def LabelTreesWrongFalsely : Prop := labelTreesRow.holds Try.pinned (OpenSpec.ofChange labelTreesWrong)

/- THE SECOND FORM. 'bulk': how many values and letters a reading holds, each counted each time it is reached (what is shared counts as often as it is met; a slice's spare places count too). A statement '..UptoSaid' is the law's where the arguments, and the package variables that the reading takes, are together of bulk at most 1048576: NARROWER than '..Said'. Prove '..Said' where nothing that the law and all that it calls make is longer than what came in: it says more and counts as full. Else prove '..UptoSaid'. A law counts once. -/
mutual
def uptoBulk {H : Type} : DataW H → Nat
  | .lit (.string bytes) => bytes.length + 1
  | .lit _ => 1
  | .nil => 1
  | .ptr d => uptoBulk d + 1
  | .slice elems spare => uptoBulkAll elems + uptoBulkAll spare + 1
  | .agg parts => uptoBulkAll parts + 1
  | .iface _ d => uptoBulk d + 1
  | .map entries => uptoBulkEntries entries + 1
  | .held _ => 1
def uptoBulkAll {H : Type} : List (DataW H) → Nat
  | [] => 0
  | d :: r => uptoBulk d + uptoBulkAll r
def uptoBulkEntries {H : Type} : List (Lit × DataW H) → Nat
  | [] => 0
  | x :: r => uptoBulkEntry x + uptoBulkEntries r
def uptoBulkEntry {H : Type} : Lit × DataW H → Nat
  | (.string bytes, d) => bytes.length + uptoBulk d + 1
  | (_, d) => uptoBulk d + 1
 end
def uptoSmall : (H : Type) → List (DataW H) → Bool := fun _ ds => decide (uptoBulkAll ds ≤ 1048576)
def OpenSpec.upto (s : _root_.Go.ChangeSpec) : _root_.Go.OpenSpec := { _root_.Go.OpenSpec.ofChange s with cond := some uptoSmall }

/-- 'rickyardlaw11.LabelQueues', WHERE WHAT IT READS IS OF BULK AT MOST 1048576: true; the input reads as it did. -/
def labelQueuesUptoRow : OpenClaim := { program := "ytkmndllomheegaa", sum := "d888606b30e453ae1ee1ea3d03855c42bcc89f79d55d66a1d80040e5ab95e4b6", func := "rickyard/rickyardlaw11.LabelQueues", spec := "labelQueues", unfollowed := true, recurses := true, apart := false, narrowed := true }
def LabelQueuesUptoSaid : Prop := labelQueuesUptoRow.holds Try.pinned (OpenSpec.upto labelQueuesSpec)

/-- 'rickyardlaw11.LabelDirs', WHERE WHAT IT READS IS OF BULK AT MOST 1048576: true; the input reads as it did. -/
def labelDirsUptoRow : OpenClaim := { program := "ytkmndllomheegaa", sum := "d888606b30e453ae1ee1ea3d03855c42bcc89f79d55d66a1d80040e5ab95e4b6", func := "rickyard/rickyardlaw11.LabelDirs", spec := "labelDirs", unfollowed := true, recurses := true, apart := false, narrowed := true }
def LabelDirsUptoSaid : Prop := labelDirsUptoRow.holds Try.pinned (OpenSpec.upto labelDirsSpec)

/-- 'rickyardlaw11.LabelReads', WHERE WHAT IT READS IS OF BULK AT MOST 1048576: true; the input reads as it did. -/
def labelReadsUptoRow : OpenClaim := { program := "ytkmndllomheegaa", sum := "d888606b30e453ae1ee1ea3d03855c42bcc89f79d55d66a1d80040e5ab95e4b6", func := "rickyard/rickyardlaw11.LabelReads", spec := "labelReads", unfollowed := true, recurses := true, apart := false, narrowed := true }
def LabelReadsUptoSaid : Prop := labelReadsUptoRow.holds Try.pinned (OpenSpec.upto labelReadsSpec)

/-- 'rickyardlaw11.LabelTrees', WHERE WHAT IT READS IS OF BULK AT MOST 1048576: true; the input reads as it did. -/
def labelTreesUptoRow : OpenClaim := { program := "ytkmndllomheegaa", sum := "d888606b30e453ae1ee1ea3d03855c42bcc89f79d55d66a1d80040e5ab95e4b6", func := "rickyard/rickyardlaw11.LabelTrees", spec := "labelTrees", unfollowed := true, recurses := true, apart := false, narrowed := true }
def LabelTreesUptoSaid : Prop := labelTreesUptoRow.holds Try.pinned (OpenSpec.upto labelTreesSpec)

end Rows
end Go.Proofs.Ytkmndllomheegaa
