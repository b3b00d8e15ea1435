/-
  No cell of these rows narrows 'for every input' (looked for: loops, veiled, ifaces, maps, wideKeys, modest, calm, conditions, laid).
  DERIVED. THE GIVEN ROWS OF THIS SEAT. 6 by the template 'for every input the law returns true; each argument reads behind the call as it read before'; 0 by the template 'total and deterministic' (their statements: YtjkiehfjbldkkaaTotals.lean).
  GIVEN WITH THE SEED: the statements are not yours to turn. If you find one false, say at which input.
  Laid BY PROGRAM, IN A SANDBOX (cutbox-rows.mjs): the forced cells as the released guide's own fill.sh prints them over the translation a666820b5bb6dc27… (all of the seat's roots in one cut). By AI agents, Wed Nov 11 2026. No macro, syntax, notation, axiom, sorry.
-/
import Derived.Test.YtjkiehfjbldkkaaChecked
import GoSem.Claim
import GoSem.ClaimJoined
import GoSem.ClaimMapViews
import Derived.JoinedTies
import Derived.KernelRfl
namespace Go.Proofs.Ytjkiehfjbldkkaa
/- THE CELL 'sum', in the pinned program and in every row, IS THE sha256 OF THE DUMP (.gsa) THAT YtjkiehfjbldkkaaProg.lean LOADS. Nothing in Lean hashes anything: it is a label: what it is worth is what the hold of that sum in a sandbox is worth. -/
noncomputable def Try.pinned : Pinned := { name := "ytjkiehfjbldkkaa", sum := "a666820b5bb6dc273013346898fad7bc2cb59ee3a935366e085f3c098fb93d71", checked := Try.checked }
namespace Rows
def none {H : Type} : Left H := { results := [], args := [] }

/-- 'rickyardlaw05.PmemActs': WHATEVER THE INPUT: true; the input reads as it did. -/
def pmemActsSpec : ChangeSpec := { name := "pmemActs", fn := fun _ => fun
  | [d1, d2] => { results := [.lit (.bool true)], args := [d1, d2] }
  | _ => none }
def pmemActsRow : OpenClaim := { program := "ytjkiehfjbldkkaa", sum := "a666820b5bb6dc273013346898fad7bc2cb59ee3a935366e085f3c098fb93d71", func := "rickyard/rickyardlaw05.PmemActs", spec := "pmemActs", unfollowed := true, recurses := true, apart := false }
def PmemActsSaid : Prop := pmemActsRow.holds Try.pinned (OpenSpec.ofChange pmemActsSpec)

/-- ITS FALSE NEIGHBOUR: 'it returns false'. Refute it at one input. -/
def pmemActsWrong : ChangeSpec := { name := "pmemActs", fn := fun _ => fun
  | [d1, d2] => { results := [.lit (.bool false)], args := [d1, d2] }
  | _ => none }
def PmemActsWrongFalsely : Prop := pmemActsRow.holds Try.pinned (OpenSpec.ofChange pmemActsWrong)

/-- 'rickyardlaw05.PmemFrom': WHATEVER THE INPUT: true; the input reads as it did. -/
def pmemFromSpec : ChangeSpec := { name := "pmemFrom", fn := fun _ => fun
  | [d] => { results := [.lit (.bool true)], args := [d] }
  | _ => none }
def pmemFromRow : OpenClaim := { program := "ytjkiehfjbldkkaa", sum := "a666820b5bb6dc273013346898fad7bc2cb59ee3a935366e085f3c098fb93d71", func := "rickyard/rickyardlaw05.PmemFrom", spec := "pmemFrom", unfollowed := true, recurses := true, apart := false }
def PmemFromSaid : Prop := pmemFromRow.holds Try.pinned (OpenSpec.ofChange pmemFromSpec)

/-- ITS FALSE NEIGHBOUR: 'it returns false'. Refute it at one input. -/
def pmemFromWrong : ChangeSpec := { name := "pmemFrom", fn := fun _ => fun
  | [d] => { results := [.lit (.bool false)], args := [d] }
  | _ => none }
def PmemFromWrongFalsely : Prop := pmemFromRow.holds Try.pinned (OpenSpec.ofChange pmemFromWrong)

/-- 'rickyardlaw05.PmemFenced': WHATEVER THE INPUT: true; the input reads as it did. -/
def pmemFencedSpec : ChangeSpec := { name := "pmemFenced", fn := fun _ => fun
  | [d] => { results := [.lit (.bool true)], args := [d] }
  | _ => none }
def pmemFencedRow : OpenClaim := { program := "ytjkiehfjbldkkaa", sum := "a666820b5bb6dc273013346898fad7bc2cb59ee3a935366e085f3c098fb93d71", func := "rickyard/rickyardlaw05.PmemFenced", spec := "pmemFenced", unfollowed := true, recurses := true, apart := false }
def PmemFencedSaid : Prop := pmemFencedRow.holds Try.pinned (OpenSpec.ofChange pmemFencedSpec)

/-- ITS FALSE NEIGHBOUR: 'it returns false'. Refute it at one input. -/
def pmemFencedWrong : ChangeSpec := { name := "pmemFenced", fn := fun _ => fun
  | [d] => { results := [.lit (.bool false)], args := [d] }
  | _ => none }
def PmemFencedWrongFalsely : Prop := pmemFencedRow.holds Try.pinned (OpenSpec.ofChange pmemFencedWrong)

/-- 'rickyardlaw05.PmemCrash': WHATEVER THE INPUT: true; the input reads as it did. -/
def pmemCrashSpec : ChangeSpec := { name := "pmemCrash", fn := fun _ => fun
  | [d1, d2] => { results := [.lit (.bool true)], args := [d1, d2] }
  | _ => none }
def pmemCrashRow : OpenClaim := { program := "ytjkiehfjbldkkaa", sum := "a666820b5bb6dc273013346898fad7bc2cb59ee3a935366e085f3c098fb93d71", func := "rickyard/rickyardlaw05.PmemCrash", spec := "pmemCrash", unfollowed := true, recurses := true, apart := false }
def PmemCrashSaid : Prop := pmemCrashRow.holds Try.pinned (OpenSpec.ofChange pmemCrashSpec)

/-- ITS FALSE NEIGHBOUR: 'it returns false'. Refute it at one input. -/
def pmemCrashWrong : ChangeSpec := { name := "pmemCrash", fn := fun _ => fun
  | [d1, d2] => { results := [.lit (.bool false)], args := [d1, d2] }
  | _ => none }
def PmemCrashWrongFalsely : Prop := pmemCrashRow.holds Try.pinned (OpenSpec.ofChange pmemCrashWrong)

/-- 'rickyardlaw05.PmemPower': WHATEVER THE INPUT: true; the input reads as it did. -/
def pmemPowerSpec : ChangeSpec := { name := "pmemPower", fn := fun _ => fun
  | [d1, d2] => { results := [.lit (.bool true)], args := [d1, d2] }
  | _ => none }
def pmemPowerRow : OpenClaim := { program := "ytjkiehfjbldkkaa", sum := "a666820b5bb6dc273013346898fad7bc2cb59ee3a935366e085f3c098fb93d71", func := "rickyard/rickyardlaw05.PmemPower", spec := "pmemPower", unfollowed := true, recurses := true, apart := false }
def PmemPowerSaid : Prop := pmemPowerRow.holds Try.pinned (OpenSpec.ofChange pmemPowerSpec)

/-- ITS FALSE NEIGHBOUR: 'it returns false'. Refute it at one input. -/
def pmemPowerWrong : ChangeSpec := { name := "pmemPower", fn := fun _ => fun
  | [d1, d2] => { results := [.lit (.bool false)], args := [d1, d2] }
  | _ => none }
def PmemPowerWrongFalsely : Prop := pmemPowerRow.holds Try.pinned (OpenSpec.ofChange pmemPowerWrong)

/-- 'rickyardlaw05.PmemPlans': WHATEVER THE INPUT: true; the input reads as it did. -/
def pmemPlansSpec : ChangeSpec := { name := "pmemPlans", fn := fun _ => fun
  | [d1, d2] => { results := [.lit (.bool true)], args := [d1, d2] }
  | _ => none }
def pmemPlansRow : OpenClaim := { program := "ytjkiehfjbldkkaa", sum := "a666820b5bb6dc273013346898fad7bc2cb59ee3a935366e085f3c098fb93d71", func := "rickyard/rickyardlaw05.PmemPlans", spec := "pmemPlans", unfollowed := true, recurses := true, apart := false }
def PmemPlansSaid : Prop := pmemPlansRow.holds Try.pinned (OpenSpec.ofChange pmemPlansSpec)

/-- ITS FALSE NEIGHBOUR: 'it returns false'. Refute it at one input. -/
def pmemPlansWrong : ChangeSpec := { name := "pmemPlans", fn := fun _ => fun
  | [d1, d2] => { results := [.lit (.bool false)], args := [d1, d2] }
  | _ => none }
def PmemPlansWrongFalsely : Prop := pmemPlansRow.holds Try.pinned (OpenSpec.ofChange pmemPlansWrong)

/- THE SECOND FORM. 'bulk': how many values and letters a reading holds, each counted each time it is reached (what is shared counts as often as it is met; a slice's spare places count too). A statement '..UptoSaid' is the law's where the arguments, and the package variables that the reading takes, are together of bulk at most 1048576: NARROWER than '..Said'. Prove '..Said' where nothing that the law and all that it calls make is longer than what came in: it says more and counts as full. Else prove '..UptoSaid'. A law counts once. -/
mutual
def uptoBulk {H : Type} : DataW H → Nat
  | .lit (.string bytes) => bytes.length + 1
  | .lit _ => 1
  | .nil => 1
  | .ptr d => uptoBulk d + 1
  | .slice elems spare => uptoBulkAll elems + uptoBulkAll spare + 1
  | .agg parts => uptoBulkAll parts + 1
  | .iface _ d => uptoBulk d + 1
  | .map entries => uptoBulkEntries entries + 1
  | .held _ => 1
def uptoBulkAll {H : Type} : List (DataW H) → Nat
  | [] => 0
  | d :: r => uptoBulk d + uptoBulkAll r
def uptoBulkEntries {H : Type} : List (Lit × DataW H) → Nat
  | [] => 0
  | x :: r => uptoBulkEntry x + uptoBulkEntries r
def uptoBulkEntry {H : Type} : Lit × DataW H → Nat
  | (.string bytes, d) => bytes.length + uptoBulk d + 1
  | (_, d) => uptoBulk d + 1
 end
def uptoSmall : (H : Type) → List (DataW H) → Bool := fun _ ds => decide (uptoBulkAll ds ≤ 1048576)
def OpenSpec.upto (s : _root_.Go.ChangeSpec) : _root_.Go.OpenSpec := { _root_.Go.OpenSpec.ofChange s with cond := some uptoSmall }

/-- 'rickyardlaw05.PmemActs', WHERE WHAT IT READS IS OF BULK AT MOST 1048576: true; the input reads as it did. -/
def pmemActsUptoRow : OpenClaim := { program := "ytjkiehfjbldkkaa", sum := "a666820b5bb6dc273013346898fad7bc2cb59ee3a935366e085f3c098fb93d71", func := "rickyard/rickyardlaw05.PmemActs", spec := "pmemActs", unfollowed := true, recurses := true, apart := false, narrowed := true }
def PmemActsUptoSaid : Prop := pmemActsUptoRow.holds Try.pinned (OpenSpec.upto pmemActsSpec)

/-- 'rickyardlaw05.PmemFrom', WHERE WHAT IT READS IS OF BULK AT MOST 1048576: true; the input reads as it did. -/
def pmemFromUptoRow : OpenClaim := { program := "ytjkiehfjbldkkaa", sum := "a666820b5bb6dc273013346898fad7bc2cb59ee3a935366e085f3c098fb93d71", func := "rickyard/rickyardlaw05.PmemFrom", spec := "pmemFrom", unfollowed := true, recurses := true, apart := false, narrowed := true }
def PmemFromUptoSaid : Prop := pmemFromUptoRow.holds Try.pinned (OpenSpec.upto pmemFromSpec)

/-- 'rickyardlaw05.PmemFenced', WHERE WHAT IT READS IS OF BULK AT MOST 1048576: true; the input reads as it did. -/
def pmemFencedUptoRow : OpenClaim := { program := "ytjkiehfjbldkkaa", sum := "a666820b5bb6dc273013346898fad7bc2cb59ee3a935366e085f3c098fb93d71", func := "rickyard/rickyardlaw05.PmemFenced", spec := "pmemFenced", unfollowed := true, recurses := true, apart := false, narrowed := true }
def PmemFencedUptoSaid : Prop := pmemFencedUptoRow.holds Try.pinned (OpenSpec.upto pmemFencedSpec)

/-- 'rickyardlaw05.PmemCrash', WHERE WHAT IT READS IS OF BULK AT MOST 1048576: true; the input reads as it did. -/
def pmemCrashUptoRow : OpenClaim := { program := "ytjkiehfjbldkkaa", sum := "a666820b5bb6dc273013346898fad7bc2cb59ee3a935366e085f3c098fb93d71", func := "rickyard/rickyardlaw05.PmemCrash", spec := "pmemCrash", unfollowed := true, recurses := true, apart := false, narrowed := true }
def PmemCrashUptoSaid : Prop := pmemCrashUptoRow.holds Try.pinned (OpenSpec.upto pmemCrashSpec)

/-- 'rickyardlaw05.PmemPower', WHERE WHAT IT READS IS OF BULK AT MOST 1048576: true; the input reads as it did. -/
def pmemPowerUptoRow : OpenClaim := { program := "ytjkiehfjbldkkaa", sum := "a666820b5bb6dc273013346898fad7bc2cb59ee3a935366e085f3c098fb93d71", func := "rickyard/rickyardlaw05.PmemPower", spec := "pmemPower", unfollowed := true, recurses := true, apart := false, narrowed := true }
def PmemPowerUptoSaid : Prop := pmemPowerUptoRow.holds Try.pinned (OpenSpec.upto pmemPowerSpec)

/-- 'rickyardlaw05.PmemPlans', WHERE WHAT IT READS IS OF BULK AT MOST 1048576: true; the input reads as it did. -/
def pmemPlansUptoRow : OpenClaim := { program := "ytjkiehfjbldkkaa", sum := "a666820b5bb6dc273013346898fad7bc2cb59ee3a935366e085f3c098fb93d71", func := "rickyard/rickyardlaw05.PmemPlans", spec := "pmemPlans", unfollowed := true, recurses := true, apart := false, narrowed := true }
def PmemPlansUptoSaid : Prop := pmemPlansUptoRow.holds Try.pinned (OpenSpec.upto pmemPlansSpec)

end Rows
end Go.Proofs.Ytjkiehfjbldkkaa
