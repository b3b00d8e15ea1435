/-
  No cell of these rows narrows 'for every input' (looked for: loops, veiled, ifaces, maps, wideKeys, modest, calm, conditions, laid).
  DERIVED. THE GIVEN ROWS OF THIS SEAT. 4 by the template 'for every input the law returns true; each argument reads behind the call as it read before'; 0 by the template 'total and deterministic' (their statements: YtjehcgkmapapbaaTotals.lean).
  GIVEN WITH THE SEED: the statements are not yours to turn. If you find one false, say at which input.
  Laid BY PROGRAM, IN A SANDBOX (cutbox-rows.mjs): the forced cells as the released guide's own fill.sh prints them over the translation 6f1d8d3f3b204d6f… (all of the seat's roots in one cut). By AI agents, Wed Nov 11 2026. No macro, syntax, notation, axiom, sorry.
-/
import Derived.Test.YtjehcgkmapapbaaChecked
import GoSem.Claim
import GoSem.ClaimJoined
import GoSem.ClaimMapViews
import Derived.JoinedTies
import Derived.KernelRfl
namespace Go.Proofs.Ytjehcgkmapapbaa
/- THE CELL 'sum', in the pinned program and in every row, IS THE sha256 OF THE DUMP (.gsa) THAT YtjehcgkmapapbaaProg.lean LOADS. Nothing in Lean hashes anything: it is a label: what it is worth is what the hold of that sum in a sandbox is worth. -/
noncomputable def Try.pinned : Pinned := { name := "ytjehcgkmapapbaa", sum := "6f1d8d3f3b204d6f5dff5c0d02b7b8869df42b308ea116c4caab5b3583831520", checked := Try.checked }
namespace Rows
def none {H : Type} : Left H := { results := [], args := [] }

/-- 'rickyardlaw09.PageLeaves': WHATEVER THE INPUT: true; the input reads as it did. -/
def pageLeavesSpec : ChangeSpec := { name := "pageLeaves", fn := fun _ => fun
  | [d] => { results := [.lit (.bool true)], args := [d] }
  | _ => none }
def pageLeavesRow : OpenClaim := { program := "ytjehcgkmapapbaa", sum := "6f1d8d3f3b204d6f5dff5c0d02b7b8869df42b308ea116c4caab5b3583831520", func := "rickyard/rickyardlaw09.PageLeaves", spec := "pageLeaves", apart := false }
def PageLeavesSaid : Prop := pageLeavesRow.holds Try.pinned (OpenSpec.ofChange pageLeavesSpec)

/-- ITS FALSE NEIGHBOUR: 'it returns false'. Refute it at one input. -/
def pageLeavesWrong : ChangeSpec := { name := "pageLeaves", fn := fun _ => fun
  | [d] => { results := [.lit (.bool false)], args := [d] }
  | _ => none }
def PageLeavesWrongFalsely : Prop := pageLeavesRow.holds Try.pinned (OpenSpec.ofChange pageLeavesWrong)

/-- 'rickyardlaw09.PageFans': WHATEVER THE INPUT: true; the input reads as it did. -/
def pageFansSpec : ChangeSpec := { name := "pageFans", fn := fun _ => fun
  | [d] => { results := [.lit (.bool true)], args := [d] }
  | _ => none }
def pageFansRow : OpenClaim := { program := "ytjehcgkmapapbaa", sum := "6f1d8d3f3b204d6f5dff5c0d02b7b8869df42b308ea116c4caab5b3583831520", func := "rickyard/rickyardlaw09.PageFans", spec := "pageFans", apart := false }
def PageFansSaid : Prop := pageFansRow.holds Try.pinned (OpenSpec.ofChange pageFansSpec)

/-- ITS FALSE NEIGHBOUR: 'it returns false'. Refute it at one input. -/
def pageFansWrong : ChangeSpec := { name := "pageFans", fn := fun _ => fun
  | [d] => { results := [.lit (.bool false)], args := [d] }
  | _ => none }
def PageFansWrongFalsely : Prop := pageFansRow.holds Try.pinned (OpenSpec.ofChange pageFansWrong)

/-- 'rickyardlaw09.PageReads': WHATEVER THE INPUT: true; the input reads as it did. -/
def pageReadsSpec : ChangeSpec := { name := "pageReads", fn := fun _ => fun
  | [d] => { results := [.lit (.bool true)], args := [d] }
  | _ => none }
def pageReadsRow : OpenClaim := { program := "ytjehcgkmapapbaa", sum := "6f1d8d3f3b204d6f5dff5c0d02b7b8869df42b308ea116c4caab5b3583831520", func := "rickyard/rickyardlaw09.PageReads", spec := "pageReads", apart := false }
def PageReadsSaid : Prop := pageReadsRow.holds Try.pinned (OpenSpec.ofChange pageReadsSpec)

/-- ITS FALSE NEIGHBOUR: 'it returns false'. Refute it at one input. -/
def pageReadsWrong : ChangeSpec := { name := "pageReads", fn := fun _ => fun
  | [d] => { results := [.lit (.bool false)], args := [d] }
  | _ => none }
def PageReadsWrongFalsely : Prop := pageReadsRow.holds Try.pinned (OpenSpec.ofChange pageReadsWrong)

/-- 'rickyardlaw09.PageSeats': WHATEVER THE INPUT: true; the input reads as it did. -/
def pageSeatsSpec : ChangeSpec := { name := "pageSeats", fn := fun _ => fun
  | [d1, d2, d3] => { results := [.lit (.bool true)], args := [d1, d2, d3] }
  | _ => none }
def pageSeatsRow : OpenClaim := { program := "ytjehcgkmapapbaa", sum := "6f1d8d3f3b204d6f5dff5c0d02b7b8869df42b308ea116c4caab5b3583831520", func := "rickyard/rickyardlaw09.PageSeats", spec := "pageSeats", apart := false }
def PageSeatsSaid : Prop := pageSeatsRow.holds Try.pinned (OpenSpec.ofChange pageSeatsSpec)

/-- ITS FALSE NEIGHBOUR: 'it returns false'. Refute it at one input. -/
def pageSeatsWrong : ChangeSpec := { name := "pageSeats", fn := fun _ => fun
  | [d1, d2, d3] => { results := [.lit (.bool false)], args := [d1, d2, d3] }
  | _ => none }
def PageSeatsWrongFalsely : Prop := pageSeatsRow.holds Try.pinned (OpenSpec.ofChange pageSeatsWrong)

/- THE SECOND FORM. 'bulk': how many values and letters a reading holds, each counted each time it is reached (what is shared counts as often as it is met; a slice's spare places count too). A statement '..UptoSaid' is the law's where the arguments, and the package variables that the reading takes, are together of bulk at most 1048576: NARROWER than '..Said'. Prove '..Said' where nothing that the law and all that it calls make is longer than what came in: it says more and counts as full. Else prove '..UptoSaid'. A law counts once. -/
mutual
def uptoBulk {H : Type} : DataW H → Nat
  | .lit (.string bytes) => bytes.length + 1
  | .lit _ => 1
  | .nil => 1
  | .ptr d => uptoBulk d + 1
  | .slice elems spare => uptoBulkAll elems + uptoBulkAll spare + 1
  | .agg parts => uptoBulkAll parts + 1
  | .iface _ d => uptoBulk d + 1
  | .map entries => uptoBulkEntries entries + 1
  | .held _ => 1
def uptoBulkAll {H : Type} : List (DataW H) → Nat
  | [] => 0
  | d :: r => uptoBulk d + uptoBulkAll r
def uptoBulkEntries {H : Type} : List (Lit × DataW H) → Nat
  | [] => 0
  | x :: r => uptoBulkEntry x + uptoBulkEntries r
def uptoBulkEntry {H : Type} : Lit × DataW H → Nat
  | (.string bytes, d) => bytes.length + uptoBulk d + 1
  | (_, d) => uptoBulk d + 1
 end
def uptoSmall : (H : Type) → List (DataW H) → Bool := fun _ ds => decide (uptoBulkAll ds ≤ 1048576)
def OpenSpec.upto (s : _root_.Go.ChangeSpec) : _root_.Go.OpenSpec := { _root_.Go.OpenSpec.ofChange s with cond := some uptoSmall }

/-- 'rickyardlaw09.PageLeaves', WHERE WHAT IT READS IS OF BULK AT MOST 1048576: true; the input reads as it did. -/
def pageLeavesUptoRow : OpenClaim := { program := "ytjehcgkmapapbaa", sum := "6f1d8d3f3b204d6f5dff5c0d02b7b8869df42b308ea116c4caab5b3583831520", func := "rickyard/rickyardlaw09.PageLeaves", spec := "pageLeaves", apart := false, narrowed := true }
def PageLeavesUptoSaid : Prop := pageLeavesUptoRow.holds Try.pinned (OpenSpec.upto pageLeavesSpec)

/-- 'rickyardlaw09.PageFans', WHERE WHAT IT READS IS OF BULK AT MOST 1048576: true; the input reads as it did. -/
def pageFansUptoRow : OpenClaim := { program := "ytjehcgkmapapbaa", sum := "6f1d8d3f3b204d6f5dff5c0d02b7b8869df42b308ea116c4caab5b3583831520", func := "rickyard/rickyardlaw09.PageFans", spec := "pageFans", apart := false, narrowed := true }
def PageFansUptoSaid : Prop := pageFansUptoRow.holds Try.pinned (OpenSpec.upto pageFansSpec)

/-- 'rickyardlaw09.PageReads', WHERE WHAT IT READS IS OF BULK AT MOST 1048576: true; the input reads as it did. -/
def pageReadsUptoRow : OpenClaim := { program := "ytjehcgkmapapbaa", sum := "6f1d8d3f3b204d6f5dff5c0d02b7b8869df42b308ea116c4caab5b3583831520", func := "rickyard/rickyardlaw09.PageReads", spec := "pageReads", apart := false, narrowed := true }
def PageReadsUptoSaid : Prop := pageReadsUptoRow.holds Try.pinned (OpenSpec.upto pageReadsSpec)

/-- 'rickyardlaw09.PageSeats', WHERE WHAT IT READS IS OF BULK AT MOST 1048576: true; the input reads as it did. -/
def pageSeatsUptoRow : OpenClaim := { program := "ytjehcgkmapapbaa", sum := "6f1d8d3f3b204d6f5dff5c0d02b7b8869df42b308ea116c4caab5b3583831520", func := "rickyard/rickyardlaw09.PageSeats", spec := "pageSeats", apart := false, narrowed := true }
def PageSeatsUptoSaid : Prop := pageSeatsUptoRow.holds Try.pinned (OpenSpec.upto pageSeatsSpec)

end Rows
end Go.Proofs.Ytjehcgkmapapbaa
