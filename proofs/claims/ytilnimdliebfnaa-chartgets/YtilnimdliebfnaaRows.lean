/-
  No cell of these rows narrows 'for every input' (looked for: loops, veiled, ifaces, maps, wideKeys, modest, calm, conditions, laid).
  DERIVED. THE GIVEN ROWS OF THIS SEAT. 4 by the template 'for every input the law returns true; each argument reads behind the call as it read before'; 0 by the template 'total and deterministic' (their statements: YtilnimdliebfnaaTotals.lean).
  GIVEN WITH THE SEED: the statements are not yours to turn. If you find one false, say at which input.
  Laid BY PROGRAM, IN A SANDBOX (cutbox-rows.mjs): the forced cells as the released guide's own fill.sh prints them over the translation 6cb51eea1a088ee4… (all of the seat's roots in one cut). By AI agents, Wed Nov 11 2026. No macro, syntax, notation, axiom, sorry.
-/
import Derived.Test.YtilnimdliebfnaaChecked
import GoSem.Claim
import GoSem.ClaimJoined
import GoSem.ClaimMapViews
import Derived.JoinedTies
import Derived.KernelRfl
namespace Go.Proofs.Ytilnimdliebfnaa
/- THE CELL 'sum', in the pinned program and in every row, IS THE sha256 OF THE DUMP (.gsa) THAT YtilnimdliebfnaaProg.lean LOADS. Nothing in Lean hashes anything: it is a label: what it is worth is what the hold of that sum in a sandbox is worth. -/
noncomputable def Try.pinned : Pinned := { name := "ytilnimdliebfnaa", sum := "6cb51eea1a088ee4bcf944891c468bdba5edf11fcf15831d46e74e539c347a0f", checked := Try.checked }
namespace Rows
def none {H : Type} : Left H := { results := [], args := [] }

/-- 'rickyardlaw10.ChartPuts': WHATEVER THE INPUT: true; the input reads as it did. -/
def chartPutsSpec : ChangeSpec := { name := "chartPuts", fn := fun _ => fun
  | [d] => { results := [.lit (.bool true)], args := [d] }
  | _ => none }
def chartPutsRow : OpenClaim := { program := "ytilnimdliebfnaa", sum := "6cb51eea1a088ee4bcf944891c468bdba5edf11fcf15831d46e74e539c347a0f", func := "rickyard/rickyardlaw10.ChartPuts", spec := "chartPuts", apart := false }
def ChartPutsSaid : Prop := chartPutsRow.holds Try.pinned (OpenSpec.ofChange chartPutsSpec)

/-- ITS FALSE NEIGHBOUR: 'it returns false'. Refute it at one input. -/
def chartPutsWrong : ChangeSpec := { name := "chartPuts", fn := fun _ => fun
  | [d] => { results := [.lit (.bool false)], args := [d] }
  | _ => none }
def ChartPutsWrongFalsely : Prop := chartPutsRow.holds Try.pinned (OpenSpec.ofChange chartPutsWrong)

/-- 'rickyardlaw10.ChartGets': WHATEVER THE INPUT: true; the input reads as it did. -/
def chartGetsSpec : ChangeSpec := { name := "chartGets", fn := fun _ => fun
  | [d] => { results := [.lit (.bool true)], args := [d] }
  | _ => none }
def chartGetsRow : OpenClaim := { program := "ytilnimdliebfnaa", sum := "6cb51eea1a088ee4bcf944891c468bdba5edf11fcf15831d46e74e539c347a0f", func := "rickyard/rickyardlaw10.ChartGets", spec := "chartGets", apart := false }
def ChartGetsSaid : Prop := chartGetsRow.holds Try.pinned (OpenSpec.ofChange chartGetsSpec)

/-- ITS FALSE NEIGHBOUR: 'it returns false'. Refute it at one input. -/
def chartGetsWrong : ChangeSpec := { name := "chartGets", fn := fun _ => fun
  | [d] => { results := [.lit (.bool false)], args := [d] }
  | _ => none }
def ChartGetsWrongFalsely : Prop := chartGetsRow.holds Try.pinned (OpenSpec.ofChange chartGetsWrong)

/-- 'rickyardlaw10.ChartTells': WHATEVER THE INPUT: true; the input reads as it did. -/
def chartTellsSpec : ChangeSpec := { name := "chartTells", fn := fun _ => fun
  | [d1, d2] => { results := [.lit (.bool true)], args := [d1, d2] }
  | _ => none }
def chartTellsRow : OpenClaim := { program := "ytilnimdliebfnaa", sum := "6cb51eea1a088ee4bcf944891c468bdba5edf11fcf15831d46e74e539c347a0f", func := "rickyard/rickyardlaw10.ChartTells", spec := "chartTells", apart := false }
def ChartTellsSaid : Prop := chartTellsRow.holds Try.pinned (OpenSpec.ofChange chartTellsSpec)

/-- ITS FALSE NEIGHBOUR: 'it returns false'. Refute it at one input. -/
def chartTellsWrong : ChangeSpec := { name := "chartTells", fn := fun _ => fun
  | [d1, d2] => { results := [.lit (.bool false)], args := [d1, d2] }
  | _ => none }
def ChartTellsWrongFalsely : Prop := chartTellsRow.holds Try.pinned (OpenSpec.ofChange chartTellsWrong)

/-- 'rickyardlaw10.ChartMarks': WHATEVER THE INPUT: true; the input reads as it did. -/
def chartMarksSpec : ChangeSpec := { name := "chartMarks", fn := fun _ => fun
  | [d1, d2, d3] => { results := [.lit (.bool true)], args := [d1, d2, d3] }
  | _ => none }
def chartMarksRow : OpenClaim := { program := "ytilnimdliebfnaa", sum := "6cb51eea1a088ee4bcf944891c468bdba5edf11fcf15831d46e74e539c347a0f", func := "rickyard/rickyardlaw10.ChartMarks", spec := "chartMarks", apart := false }
def ChartMarksSaid : Prop := chartMarksRow.holds Try.pinned (OpenSpec.ofChange chartMarksSpec)

/-- ITS FALSE NEIGHBOUR: 'it returns false'. Refute it at one input. -/
def chartMarksWrong : ChangeSpec := { name := "chartMarks", fn := fun _ => fun
  | [d1, d2, d3] => { results := [.lit (.bool false)], args := [d1, d2, d3] }
  | _ => none }
def ChartMarksWrongFalsely : Prop := chartMarksRow.holds Try.pinned (OpenSpec.ofChange chartMarksWrong)

/- THE SECOND FORM. 'bulk': how many values and letters a reading holds, each counted each time it is reached (what is shared counts as often as it is met; a slice's spare places count too). A statement '..UptoSaid' is the law's where the arguments, and the package variables that the reading takes, are together of bulk at most 1048576: NARROWER than '..Said'. Prove '..Said' where nothing that the law and all that it calls make is longer than what came in: it says more and counts as full. Else prove '..UptoSaid'. A law counts once. -/
mutual
def uptoBulk {H : Type} : DataW H → Nat
  | .lit (.string bytes) => bytes.length + 1
  | .lit _ => 1
  | .nil => 1
  | .ptr d => uptoBulk d + 1
  | .slice elems spare => uptoBulkAll elems + uptoBulkAll spare + 1
  | .agg parts => uptoBulkAll parts + 1
  | .iface _ d => uptoBulk d + 1
  | .map entries => uptoBulkEntries entries + 1
  | .held _ => 1
def uptoBulkAll {H : Type} : List (DataW H) → Nat
  | [] => 0
  | d :: r => uptoBulk d + uptoBulkAll r
def uptoBulkEntries {H : Type} : List (Lit × DataW H) → Nat
  | [] => 0
  | x :: r => uptoBulkEntry x + uptoBulkEntries r
def uptoBulkEntry {H : Type} : Lit × DataW H → Nat
  | (.string bytes, d) => bytes.length + uptoBulk d + 1
  | (_, d) => uptoBulk d + 1
 end
def uptoSmall : (H : Type) → List (DataW H) → Bool := fun _ ds => decide (uptoBulkAll ds ≤ 1048576)
def OpenSpec.upto (s : _root_.Go.ChangeSpec) : _root_.Go.OpenSpec := { _root_.Go.OpenSpec.ofChange s with cond := some uptoSmall }

/-- 'rickyardlaw10.ChartPuts', WHERE WHAT IT READS IS OF BULK AT MOST 1048576: true; the input reads as it did. -/
def chartPutsUptoRow : OpenClaim := { program := "ytilnimdliebfnaa", sum := "6cb51eea1a088ee4bcf944891c468bdba5edf11fcf15831d46e74e539c347a0f", func := "rickyard/rickyardlaw10.ChartPuts", spec := "chartPuts", apart := false, narrowed := true }
def ChartPutsUptoSaid : Prop := chartPutsUptoRow.holds Try.pinned (OpenSpec.upto chartPutsSpec)

/-- 'rickyardlaw10.ChartGets', WHERE WHAT IT READS IS OF BULK AT MOST 1048576: true; the input reads as it did. -/
def chartGetsUptoRow : OpenClaim := { program := "ytilnimdliebfnaa", sum := "6cb51eea1a088ee4bcf944891c468bdba5edf11fcf15831d46e74e539c347a0f", func := "rickyard/rickyardlaw10.ChartGets", spec := "chartGets", apart := false, narrowed := true }
def ChartGetsUptoSaid : Prop := chartGetsUptoRow.holds Try.pinned (OpenSpec.upto chartGetsSpec)

/-- 'rickyardlaw10.ChartTells', WHERE WHAT IT READS IS OF BULK AT MOST 1048576: true; the input reads as it did. -/
def chartTellsUptoRow : OpenClaim := { program := "ytilnimdliebfnaa", sum := "6cb51eea1a088ee4bcf944891c468bdba5edf11fcf15831d46e74e539c347a0f", func := "rickyard/rickyardlaw10.ChartTells", spec := "chartTells", apart := false, narrowed := true }
def ChartTellsUptoSaid : Prop := chartTellsUptoRow.holds Try.pinned (OpenSpec.upto chartTellsSpec)

/-- 'rickyardlaw10.ChartMarks', WHERE WHAT IT READS IS OF BULK AT MOST 1048576: true; the input reads as it did. -/
def chartMarksUptoRow : OpenClaim := { program := "ytilnimdliebfnaa", sum := "6cb51eea1a088ee4bcf944891c468bdba5edf11fcf15831d46e74e539c347a0f", func := "rickyard/rickyardlaw10.ChartMarks", spec := "chartMarks", apart := false, narrowed := true }
def ChartMarksUptoSaid : Prop := chartMarksUptoRow.holds Try.pinned (OpenSpec.upto chartMarksSpec)

end Rows
end Go.Proofs.Ytilnimdliebfnaa
