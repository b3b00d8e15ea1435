/-
  DERIVED. GIVEN WITH THE SEED: THE CARDS: each row of YtinfjhfopmglaaaDoorRows.lean that lists a variable, with what it lists TIED to the program's text (the seventh form; the later family's looks); each row that meets fmt, with fmt's text TOLD by the authors' own Lean function (tested against real Go, not proved from fmt's source: count such statements apart). THE CARD IS WHAT COUNTS. Prove the row's statement (the work); the ties are given (YtinfjhfopmglaaaDoorTie.lean); close each card by the builder's one call (the guide's Derived/Test/ToyasCard.lean, 'card_holds'). Laid BY PROGRAM, IN A SANDBOX (cutbox-door.mjs). By AI agents, Wed Nov 11 2026. No macro, syntax, notation, axiom, sorry.
-/
import Derived.Test.YtinfjhfopmglaaaDoorRows
import GoSem.ClaimSeven
namespace Go.Proofs.YtinfjhfopmglaaaDoor
namespace Rows

/-- THE TIED CARD OF 'rickyardlaw03.DigitShows'. -/
def digitShowsCard : Claim7 := { stood := { row := digitShowsRow, standIns := [], harness := (true, "90bc32109dda209b0371b19478ad59ae4716efd7281eed86a2d7babe6260126c"), looks := false }, kinds := [], alts := [], laidByText := true, laidKinds := [.data, .data, .data], laidTests := true, laidLooks := .later }
def DigitShowsCardSaid : Prop := Claim7.holds Tryd.pinned (.plain (OpenSpec.ofChange digitShowsSpec)) digitShowsCard

/-- THE TIED CARD OF 'rickyardlaw03.DigitReads'. -/
def digitReadsCard : Claim7 := { stood := { row := digitReadsRow, standIns := [], harness := (true, "90bc32109dda209b0371b19478ad59ae4716efd7281eed86a2d7babe6260126c"), looks := false }, kinds := [], alts := [], laidByText := true, laidKinds := [.data, .data, .data], laidTests := true, laidLooks := .later }
def DigitReadsCardSaid : Prop := Claim7.holds Tryd.pinned (.plain (OpenSpec.ofChange digitReadsSpec)) digitReadsCard

/-- THE TIED CARD OF 'rickyardlaw03.DigitHandles'. -/
def digitHandlesCard : Claim7 := { stood := { row := digitHandlesRow, standIns := [], harness := (true, "90bc32109dda209b0371b19478ad59ae4716efd7281eed86a2d7babe6260126c"), looks := false }, kinds := [], alts := [], laidByText := true, laidKinds := [.data, .data, .data], laidTests := true, laidLooks := .later }
def DigitHandlesCardSaid : Prop := Claim7.holds Tryd.pinned (.plain (OpenSpec.ofChange digitHandlesSpec)) digitHandlesCard

/-- THE TIED CARD OF 'rickyardlaw03.DigitTickets'. -/
def digitTicketsCard : Claim7 := { stood := { row := digitTicketsRow, standIns := [], harness := (true, "90bc32109dda209b0371b19478ad59ae4716efd7281eed86a2d7babe6260126c"), looks := false }, kinds := [], alts := [], laidByText := true, laidKinds := [.data, .data, .data], laidTests := true, laidLooks := .later }
def DigitTicketsCardSaid : Prop := Claim7.holds Tryd.pinned (.plain (OpenSpec.ofChange digitTicketsSpec)) digitTicketsCard

/-- THE TIED CARD OF 'rickyardlaw03.DigitApart'. -/
def digitApartCard : Claim7 := { stood := { row := digitApartRow, standIns := [], harness := (true, "90bc32109dda209b0371b19478ad59ae4716efd7281eed86a2d7babe6260126c"), looks := false }, kinds := [], alts := [], laidByText := true, laidKinds := [.data, .data, .data], laidTests := true, laidLooks := .later }
def DigitApartCardSaid : Prop := Claim7.holds Tryd.pinned (.plain (OpenSpec.ofChange digitApartSpec)) digitApartCard

/-- THE SECOND FORM's CARD OF 'rickyardlaw03.DigitShows'. -/
def digitShowsUptoCard : Claim7 := { stood := { row := digitShowsUptoRow, standIns := [], harness := (true, "90bc32109dda209b0371b19478ad59ae4716efd7281eed86a2d7babe6260126c"), looks := false }, kinds := [], alts := [], laidByText := true, laidKinds := [.data, .data, .data], laidTests := true, laidLooks := .later }
def DigitShowsUptoCardSaid : Prop := Claim7.holds Tryd.pinned (.plain (OpenSpec.upto digitShowsSpec)) digitShowsUptoCard

/-- THE SECOND FORM's CARD OF 'rickyardlaw03.DigitReads'. -/
def digitReadsUptoCard : Claim7 := { stood := { row := digitReadsUptoRow, standIns := [], harness := (true, "90bc32109dda209b0371b19478ad59ae4716efd7281eed86a2d7babe6260126c"), looks := false }, kinds := [], alts := [], laidByText := true, laidKinds := [.data, .data, .data], laidTests := true, laidLooks := .later }
def DigitReadsUptoCardSaid : Prop := Claim7.holds Tryd.pinned (.plain (OpenSpec.upto digitReadsSpec)) digitReadsUptoCard

/-- THE SECOND FORM's CARD OF 'rickyardlaw03.DigitHandles'. -/
def digitHandlesUptoCard : Claim7 := { stood := { row := digitHandlesUptoRow, standIns := [], harness := (true, "90bc32109dda209b0371b19478ad59ae4716efd7281eed86a2d7babe6260126c"), looks := false }, kinds := [], alts := [], laidByText := true, laidKinds := [.data, .data, .data], laidTests := true, laidLooks := .later }
def DigitHandlesUptoCardSaid : Prop := Claim7.holds Tryd.pinned (.plain (OpenSpec.upto digitHandlesSpec)) digitHandlesUptoCard

/-- THE SECOND FORM's CARD OF 'rickyardlaw03.DigitTickets'. -/
def digitTicketsUptoCard : Claim7 := { stood := { row := digitTicketsUptoRow, standIns := [], harness := (true, "90bc32109dda209b0371b19478ad59ae4716efd7281eed86a2d7babe6260126c"), looks := false }, kinds := [], alts := [], laidByText := true, laidKinds := [.data, .data, .data], laidTests := true, laidLooks := .later }
def DigitTicketsUptoCardSaid : Prop := Claim7.holds Tryd.pinned (.plain (OpenSpec.upto digitTicketsSpec)) digitTicketsUptoCard

/-- THE SECOND FORM's CARD OF 'rickyardlaw03.DigitApart'. -/
def digitApartUptoCard : Claim7 := { stood := { row := digitApartUptoRow, standIns := [], harness := (true, "90bc32109dda209b0371b19478ad59ae4716efd7281eed86a2d7babe6260126c"), looks := false }, kinds := [], alts := [], laidByText := true, laidKinds := [.data, .data, .data], laidTests := true, laidLooks := .later }
def DigitApartUptoCardSaid : Prop := Claim7.holds Tryd.pinned (.plain (OpenSpec.upto digitApartSpec)) digitApartUptoCard
end Rows
end Go.Proofs.YtinfjhfopmglaaaDoor
