/-
  No cell of these rows narrows 'for every input' (looked for: loops, veiled, ifaces, maps, wideKeys, modest, calm, conditions, laid).
  DERIVED. THE GIVEN ROWS OF THIS SEAT. 5 by the template 'for every input the law returns true; each argument reads behind the call as it read before'; 0 by the template 'total and deterministic' (their statements: YtnaenokegomoeaaTotals.lean).
  GIVEN WITH THE SEED: the statements are not yours to turn. If you find one false, say at which input.
  Laid BY PROGRAM, IN A SANDBOX (cutbox-rows.mjs): the forced cells as the released guide's own fill.sh prints them over the translation b5afe9d6befe60ea… (all of the seat's roots in one cut). By AI agents, Wed Nov 11 2026. No macro, syntax, notation, axiom, sorry.
-/
import Derived.Test.YtnaenokegomoeaaChecked
import GoSem.Claim
import GoSem.ClaimJoined
import GoSem.ClaimMapViews
import Derived.JoinedTies
import Derived.KernelRfl
namespace Go.Proofs.Ytnaenokegomoeaa
/- THE CELL 'sum', in the pinned program and in every row, IS THE sha256 OF THE DUMP (.gsa) THAT YtnaenokegomoeaaProg.lean LOADS. Nothing in Lean hashes anything: it is a label: what it is worth is what the hold of that sum in a sandbox is worth. -/
noncomputable def Try.pinned : Pinned := { name := "ytnaenokegomoeaa", sum := "b5afe9d6befe60eae3ccc00770500a52fabb863fea0eb966496b0e06daeb0004", checked := Try.checked }
namespace Rows
def none {H : Type} : Left H := { results := [], args := [] }

/-- 'rickyardlaw06.FateValues': WHATEVER THE INPUT: true; the input reads as it did. -/
def fateValuesSpec : ChangeSpec := { name := "fateValues", fn := fun _ => fun
  | [d] => { results := [.lit (.bool true)], args := [d] }
  | _ => none }
def fateValuesRow : OpenClaim := { program := "ytnaenokegomoeaa", sum := "b5afe9d6befe60eae3ccc00770500a52fabb863fea0eb966496b0e06daeb0004", func := "rickyard/rickyardlaw06.FateValues", spec := "fateValues", unfollowed := true, recurses := true, apart := false }
def FateValuesSaid : Prop := fateValuesRow.holds Try.pinned (OpenSpec.ofChange fateValuesSpec)

/-- ITS FALSE NEIGHBOUR: 'it returns false'. Refute it at one input. -/
def fateValuesWrong : ChangeSpec := { name := "fateValues", fn := fun _ => fun
  | [d] => { results := [.lit (.bool false)], args := [d] }
  | _ => none }
def FateValuesWrongFalsely : Prop := fateValuesRow.holds Try.pinned (OpenSpec.ofChange fateValuesWrong)

/-- 'rickyardlaw06.FateCounts': WHATEVER THE INPUT: true; the input reads as it did. -/
def fateCountsSpec : ChangeSpec := { name := "fateCounts", fn := fun _ => fun
  | [d1, d2] => { results := [.lit (.bool true)], args := [d1, d2] }
  | _ => none }
def fateCountsRow : OpenClaim := { program := "ytnaenokegomoeaa", sum := "b5afe9d6befe60eae3ccc00770500a52fabb863fea0eb966496b0e06daeb0004", func := "rickyard/rickyardlaw06.FateCounts", spec := "fateCounts", unfollowed := true, recurses := true, apart := false }
def FateCountsSaid : Prop := fateCountsRow.holds Try.pinned (OpenSpec.ofChange fateCountsSpec)

/-- ITS FALSE NEIGHBOUR: 'it returns false'. Refute it at one input. -/
def fateCountsWrong : ChangeSpec := { name := "fateCounts", fn := fun _ => fun
  | [d1, d2] => { results := [.lit (.bool false)], args := [d1, d2] }
  | _ => none }
def FateCountsWrongFalsely : Prop := fateCountsRow.holds Try.pinned (OpenSpec.ofChange fateCountsWrong)

/-- 'rickyardlaw06.FateChooses': WHATEVER THE INPUT: true; the input reads as it did. -/
def fateChoosesSpec : ChangeSpec := { name := "fateChooses", fn := fun _ => fun
  | [d1, d2, d3] => { results := [.lit (.bool true)], args := [d1, d2, d3] }
  | _ => none }
def fateChoosesRow : OpenClaim := { program := "ytnaenokegomoeaa", sum := "b5afe9d6befe60eae3ccc00770500a52fabb863fea0eb966496b0e06daeb0004", func := "rickyard/rickyardlaw06.FateChooses", spec := "fateChooses", unfollowed := true, recurses := true, apart := false }
def FateChoosesSaid : Prop := fateChoosesRow.holds Try.pinned (OpenSpec.ofChange fateChoosesSpec)

/-- ITS FALSE NEIGHBOUR: 'it returns false'. Refute it at one input. -/
def fateChoosesWrong : ChangeSpec := { name := "fateChooses", fn := fun _ => fun
  | [d1, d2, d3] => { results := [.lit (.bool false)], args := [d1, d2, d3] }
  | _ => none }
def FateChoosesWrongFalsely : Prop := fateChoosesRow.holds Try.pinned (OpenSpec.ofChange fateChoosesWrong)

/-- 'rickyardlaw06.FateCrashes': WHATEVER THE INPUT: true; the input reads as it did. -/
def fateCrashesSpec : ChangeSpec := { name := "fateCrashes", fn := fun _ => fun
  | [d1, d2, d3] => { results := [.lit (.bool true)], args := [d1, d2, d3] }
  | _ => none }
def fateCrashesRow : OpenClaim := { program := "ytnaenokegomoeaa", sum := "b5afe9d6befe60eae3ccc00770500a52fabb863fea0eb966496b0e06daeb0004", func := "rickyard/rickyardlaw06.FateCrashes", spec := "fateCrashes", unfollowed := true, recurses := true, apart := false }
def FateCrashesSaid : Prop := fateCrashesRow.holds Try.pinned (OpenSpec.ofChange fateCrashesSpec)

/-- ITS FALSE NEIGHBOUR: 'it returns false'. Refute it at one input. -/
def fateCrashesWrong : ChangeSpec := { name := "fateCrashes", fn := fun _ => fun
  | [d1, d2, d3] => { results := [.lit (.bool false)], args := [d1, d2, d3] }
  | _ => none }
def FateCrashesWrongFalsely : Prop := fateCrashesRow.holds Try.pinned (OpenSpec.ofChange fateCrashesWrong)

/-- 'rickyardlaw06.FateAll': WHATEVER THE INPUT: true; the input reads as it did. -/
def fateAllSpec : ChangeSpec := { name := "fateAll", fn := fun _ => fun
  | [d1, d2, d3] => { results := [.lit (.bool true)], args := [d1, d2, d3] }
  | _ => none }
def fateAllRow : OpenClaim := { program := "ytnaenokegomoeaa", sum := "b5afe9d6befe60eae3ccc00770500a52fabb863fea0eb966496b0e06daeb0004", func := "rickyard/rickyardlaw06.FateAll", spec := "fateAll", unfollowed := true, recurses := true, apart := false }
def FateAllSaid : Prop := fateAllRow.holds Try.pinned (OpenSpec.ofChange fateAllSpec)

/-- ITS FALSE NEIGHBOUR: 'it returns false'. Refute it at one input. -/
def fateAllWrong : ChangeSpec := { name := "fateAll", fn := fun _ => fun
  | [d1, d2, d3] => { results := [.lit (.bool false)], args := [d1, d2, d3] }
  | _ => none }
def FateAllWrongFalsely : Prop := fateAllRow.holds Try.pinned (OpenSpec.ofChange fateAllWrong)

/- THE SECOND FORM. 'bulk': how many values and letters a reading holds, each counted each time it is reached (what is shared counts as often as it is met; a slice's spare places count too). A statement '..UptoSaid' is the law's where the arguments, and the package variables that the reading takes, are together of bulk at most 1048576: NARROWER than '..Said'. Prove '..Said' where nothing that the law and all that it calls make is longer than what came in: it says more and counts as full. Else prove '..UptoSaid'. A law counts once. -/
mutual
def uptoBulk {H : Type} : DataW H → Nat
  | .lit (.string bytes) => bytes.length + 1
  | .lit _ => 1
  | .nil => 1
  | .ptr d => uptoBulk d + 1
  | .slice elems spare => uptoBulkAll elems + uptoBulkAll spare + 1
  | .agg parts => uptoBulkAll parts + 1
  | .iface _ d => uptoBulk d + 1
  | .map entries => uptoBulkEntries entries + 1
  | .held _ => 1
def uptoBulkAll {H : Type} : List (DataW H) → Nat
  | [] => 0
  | d :: r => uptoBulk d + uptoBulkAll r
def uptoBulkEntries {H : Type} : List (Lit × DataW H) → Nat
  | [] => 0
  | x :: r => uptoBulkEntry x + uptoBulkEntries r
def uptoBulkEntry {H : Type} : Lit × DataW H → Nat
  | (.string bytes, d) => bytes.length + uptoBulk d + 1
  | (_, d) => uptoBulk d + 1
 end
def uptoSmall : (H : Type) → List (DataW H) → Bool := fun _ ds => decide (uptoBulkAll ds ≤ 1048576)
def OpenSpec.upto (s : _root_.Go.ChangeSpec) : _root_.Go.OpenSpec := { _root_.Go.OpenSpec.ofChange s with cond := some uptoSmall }

/-- 'rickyardlaw06.FateValues', WHERE WHAT IT READS IS OF BULK AT MOST 1048576: true; the input reads as it did. -/
def fateValuesUptoRow : OpenClaim := { program := "ytnaenokegomoeaa", sum := "b5afe9d6befe60eae3ccc00770500a52fabb863fea0eb966496b0e06daeb0004", func := "rickyard/rickyardlaw06.FateValues", spec := "fateValues", unfollowed := true, recurses := true, apart := false, narrowed := true }
def FateValuesUptoSaid : Prop := fateValuesUptoRow.holds Try.pinned (OpenSpec.upto fateValuesSpec)

/-- 'rickyardlaw06.FateCounts', WHERE WHAT IT READS IS OF BULK AT MOST 1048576: true; the input reads as it did. -/
def fateCountsUptoRow : OpenClaim := { program := "ytnaenokegomoeaa", sum := "b5afe9d6befe60eae3ccc00770500a52fabb863fea0eb966496b0e06daeb0004", func := "rickyard/rickyardlaw06.FateCounts", spec := "fateCounts", unfollowed := true, recurses := true, apart := false, narrowed := true }
def FateCountsUptoSaid : Prop := fateCountsUptoRow.holds Try.pinned (OpenSpec.upto fateCountsSpec)

/-- 'rickyardlaw06.FateChooses', WHERE WHAT IT READS IS OF BULK AT MOST 1048576: true; the input reads as it did. -/
def fateChoosesUptoRow : OpenClaim := { program := "ytnaenokegomoeaa", sum := "b5afe9d6befe60eae3ccc00770500a52fabb863fea0eb966496b0e06daeb0004", func := "rickyard/rickyardlaw06.FateChooses", spec := "fateChooses", unfollowed := true, recurses := true, apart := false, narrowed := true }
def FateChoosesUptoSaid : Prop := fateChoosesUptoRow.holds Try.pinned (OpenSpec.upto fateChoosesSpec)

/-- 'rickyardlaw06.FateCrashes', WHERE WHAT IT READS IS OF BULK AT MOST 1048576: true; the input reads as it did. -/
def fateCrashesUptoRow : OpenClaim := { program := "ytnaenokegomoeaa", sum := "b5afe9d6befe60eae3ccc00770500a52fabb863fea0eb966496b0e06daeb0004", func := "rickyard/rickyardlaw06.FateCrashes", spec := "fateCrashes", unfollowed := true, recurses := true, apart := false, narrowed := true }
def FateCrashesUptoSaid : Prop := fateCrashesUptoRow.holds Try.pinned (OpenSpec.upto fateCrashesSpec)

/-- 'rickyardlaw06.FateAll', WHERE WHAT IT READS IS OF BULK AT MOST 1048576: true; the input reads as it did. -/
def fateAllUptoRow : OpenClaim := { program := "ytnaenokegomoeaa", sum := "b5afe9d6befe60eae3ccc00770500a52fabb863fea0eb966496b0e06daeb0004", func := "rickyard/rickyardlaw06.FateAll", spec := "fateAll", unfollowed := true, recurses := true, apart := false, narrowed := true }
def FateAllUptoSaid : Prop := fateAllUptoRow.holds Try.pinned (OpenSpec.upto fateAllSpec)

end Rows
end Go.Proofs.Ytnaenokegomoeaa
