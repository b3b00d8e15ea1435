/-
  DERIVED. GIVEN WITH THE SEED: THE CARDS: each row of YtpekemiplldlpaaDoorRows.lean that lists a variable, with what it lists TIED to the program's text (the seventh form; the later family's looks); each row that meets fmt, with fmt's text TOLD by the authors' own Lean function (tested against real Go, not proved from fmt's source: count such statements apart). THE CARD IS WHAT COUNTS. Prove the row's statement (the work); the ties are given (YtpekemiplldlpaaDoorTie.lean); close each card by the builder's one call (the guide's Derived/Test/ToyasCard.lean, 'card_holds'). Laid BY PROGRAM, IN A SANDBOX (cutbox-door.mjs). By AI agents, Wed Nov 11 2026. No macro, syntax, notation, axiom, sorry.
-/
import Derived.Test.YtpekemiplldlpaaDoorRows
import GoSem.ClaimSeven
namespace Go.Proofs.YtpekemiplldlpaaDoor
namespace Rows

/-- THE TIED CARD OF 'rickyardlaw04.NameRunes'. -/
def nameRunesCard : Claim7 := { stood := { row := nameRunesRow, standIns := [], harness := (true, "848b87e83ffdb431505b59e4f318a75e56bb2be0331998e4fc3c311687918dff"), looks := false }, kinds := [], alts := [], laidByText := true, laidKinds := [.data, .data, .data], laidTests := true, laidLooks := .later }
def NameRunesCardSaid : Prop := Claim7.holds Tryd.pinned (.plain (OpenSpec.ofChange nameRunesSpec)) nameRunesCard

/-- THE TIED CARD OF 'rickyardlaw04.NameRights'. -/
def nameRightsCard : Claim7 := { stood := { row := nameRightsRow, standIns := [], harness := (true, "848b87e83ffdb431505b59e4f318a75e56bb2be0331998e4fc3c311687918dff"), looks := false }, kinds := [], alts := [], laidByText := true, laidKinds := [.data, .data, .data], laidTests := true, laidLooks := .later }
def NameRightsCardSaid : Prop := Claim7.holds Tryd.pinned (.plain (OpenSpec.ofChange nameRightsSpec)) nameRightsCard

/-- THE TIED CARD OF 'rickyardlaw04.NameOrders'. -/
def nameOrdersCard : Claim7 := { stood := { row := nameOrdersRow, standIns := [], harness := (true, "848b87e83ffdb431505b59e4f318a75e56bb2be0331998e4fc3c311687918dff"), looks := false }, kinds := [], alts := [], laidByText := true, laidKinds := [.data, .data, .data], laidTests := true, laidLooks := .later }
def NameOrdersCardSaid : Prop := Claim7.holds Tryd.pinned (.plain (OpenSpec.ofChange nameOrdersSpec)) nameOrdersCard

/-- THE TIED CARD OF 'rickyardlaw04.NameBetween'. -/
def nameBetweenCard : Claim7 := { stood := { row := nameBetweenRow, standIns := [], harness := (true, "848b87e83ffdb431505b59e4f318a75e56bb2be0331998e4fc3c311687918dff"), looks := false }, kinds := [], alts := [], laidByText := true, laidKinds := [.data, .data, .data], laidTests := true, laidLooks := .later }
def NameBetweenCardSaid : Prop := Claim7.holds Tryd.pinned (.plain (OpenSpec.ofChange nameBetweenSpec)) nameBetweenCard

/-- THE TIED CARD OF 'rickyardlaw04.NameCuts'. -/
def nameCutsCard : Claim7 := { stood := { row := nameCutsRow, standIns := [], harness := (true, "848b87e83ffdb431505b59e4f318a75e56bb2be0331998e4fc3c311687918dff"), looks := false }, kinds := [], alts := [], laidByText := true, laidKinds := [.data, .data, .data], laidTests := true, laidLooks := .later }
def NameCutsCardSaid : Prop := Claim7.holds Tryd.pinned (.plain (OpenSpec.ofChange nameCutsSpec)) nameCutsCard

/-- THE TIED CARD OF 'rickyardlaw04.NameShows'. -/
def nameShowsCard : Claim7 := { stood := { row := nameShowsRow, standIns := [], harness := (true, "848b87e83ffdb431505b59e4f318a75e56bb2be0331998e4fc3c311687918dff"), looks := false }, kinds := [], alts := [], laidByText := true, laidKinds := [.data, .data, .data], laidTests := true, laidLooks := .later }
def NameShowsCardSaid : Prop := Claim7.holds Tryd.pinned (.plain (OpenSpec.ofChange nameShowsSpec)) nameShowsCard

/-- THE SECOND FORM's CARD OF 'rickyardlaw04.NameRunes'. -/
def nameRunesUptoCard : Claim7 := { stood := { row := nameRunesUptoRow, standIns := [], harness := (true, "848b87e83ffdb431505b59e4f318a75e56bb2be0331998e4fc3c311687918dff"), looks := false }, kinds := [], alts := [], laidByText := true, laidKinds := [.data, .data, .data], laidTests := true, laidLooks := .later }
def NameRunesUptoCardSaid : Prop := Claim7.holds Tryd.pinned (.plain (OpenSpec.upto nameRunesSpec)) nameRunesUptoCard

/-- THE SECOND FORM's CARD OF 'rickyardlaw04.NameRights'. -/
def nameRightsUptoCard : Claim7 := { stood := { row := nameRightsUptoRow, standIns := [], harness := (true, "848b87e83ffdb431505b59e4f318a75e56bb2be0331998e4fc3c311687918dff"), looks := false }, kinds := [], alts := [], laidByText := true, laidKinds := [.data, .data, .data], laidTests := true, laidLooks := .later }
def NameRightsUptoCardSaid : Prop := Claim7.holds Tryd.pinned (.plain (OpenSpec.upto nameRightsSpec)) nameRightsUptoCard

/-- THE SECOND FORM's CARD OF 'rickyardlaw04.NameOrders'. -/
def nameOrdersUptoCard : Claim7 := { stood := { row := nameOrdersUptoRow, standIns := [], harness := (true, "848b87e83ffdb431505b59e4f318a75e56bb2be0331998e4fc3c311687918dff"), looks := false }, kinds := [], alts := [], laidByText := true, laidKinds := [.data, .data, .data], laidTests := true, laidLooks := .later }
def NameOrdersUptoCardSaid : Prop := Claim7.holds Tryd.pinned (.plain (OpenSpec.upto nameOrdersSpec)) nameOrdersUptoCard

/-- THE SECOND FORM's CARD OF 'rickyardlaw04.NameBetween'. -/
def nameBetweenUptoCard : Claim7 := { stood := { row := nameBetweenUptoRow, standIns := [], harness := (true, "848b87e83ffdb431505b59e4f318a75e56bb2be0331998e4fc3c311687918dff"), looks := false }, kinds := [], alts := [], laidByText := true, laidKinds := [.data, .data, .data], laidTests := true, laidLooks := .later }
def NameBetweenUptoCardSaid : Prop := Claim7.holds Tryd.pinned (.plain (OpenSpec.upto nameBetweenSpec)) nameBetweenUptoCard

/-- THE SECOND FORM's CARD OF 'rickyardlaw04.NameCuts'. -/
def nameCutsUptoCard : Claim7 := { stood := { row := nameCutsUptoRow, standIns := [], harness := (true, "848b87e83ffdb431505b59e4f318a75e56bb2be0331998e4fc3c311687918dff"), looks := false }, kinds := [], alts := [], laidByText := true, laidKinds := [.data, .data, .data], laidTests := true, laidLooks := .later }
def NameCutsUptoCardSaid : Prop := Claim7.holds Tryd.pinned (.plain (OpenSpec.upto nameCutsSpec)) nameCutsUptoCard

/-- THE SECOND FORM's CARD OF 'rickyardlaw04.NameShows'. -/
def nameShowsUptoCard : Claim7 := { stood := { row := nameShowsUptoRow, standIns := [], harness := (true, "848b87e83ffdb431505b59e4f318a75e56bb2be0331998e4fc3c311687918dff"), looks := false }, kinds := [], alts := [], laidByText := true, laidKinds := [.data, .data, .data], laidTests := true, laidLooks := .later }
def NameShowsUptoCardSaid : Prop := Claim7.holds Tryd.pinned (.plain (OpenSpec.upto nameShowsSpec)) nameShowsUptoCard
end Rows
end Go.Proofs.YtpekemiplldlpaaDoor
