/-
  DERIVED. GIVEN WITH THE SEED: THE CARDS: each row of YtgdmgmklncmanaaGreatDoorRows.lean that lists a variable, with what it lists TIED to the program's text (the seventh form; the later family's looks); each row that meets fmt, with fmt's text TOLD by the authors' own Lean function (tested against real Go, not proved from fmt's source: count such statements apart). THE CARD IS WHAT COUNTS. Prove the row's statement (the work); the ties are given (YtgdmgmklncmanaaGreatDoorTie.lean); close each card by the builder's one call (the guide's Derived/Test/ToyasCard.lean, 'card_holds'). Laid BY PROGRAM, IN A SANDBOX (cutbox-door.mjs). By AI agents, Wed Nov 11 2026. No macro, syntax, notation, axiom, sorry.
-/
import Derived.Test.YtgdmgmklncmanaaGreatDoorRows
import GoSem.ClaimSeven
namespace Go.Proofs.YtgdmgmklncmanaaGreatDoor
namespace Rows

/-- THE TIED CARD OF 'havenlaw.Compares'. -/
def comparesCard : Claim7 := { stood := { row := comparesRow, standIns := [], harness := (true, "c2f926b37db0926677f8106e0f5349e56e19890fdbb3e657da4358ee94f71f73"), looks := true }, kinds := [], alts := [], laidByText := true, laidKinds := [.data, .data, .data, .data, .data, .sentinel, .sentinel, .pinned], laidTests := true, laidLooks := .later }
def ComparesCardSaid : Prop := Claim7.holds Tryz.pinned (.plain (OpenSpec.ofChange comparesSpec)) comparesCard

/-- THE TIED CARD OF 'havenlaw.Inspects'. -/
def inspectsCard : Claim7 := { stood := { row := inspectsRow, standIns := [], harness := (true, "c2f926b37db0926677f8106e0f5349e56e19890fdbb3e657da4358ee94f71f73"), looks := true }, kinds := [], alts := [], laidByText := true, laidKinds := [.data, .data, .data, .data, .data, .sentinel, .sentinel, .pinned], laidTests := true, laidLooks := .later }
def InspectsCardSaid : Prop := Claim7.holds Tryz.pinned (.plain (OpenSpec.ofChange inspectsSpec)) inspectsCard

/-- THE SECOND FORM's CARD OF 'havenlaw.Compares'. -/
def comparesUptoCard : Claim7 := { stood := { row := comparesUptoRow, standIns := [], harness := (true, "c2f926b37db0926677f8106e0f5349e56e19890fdbb3e657da4358ee94f71f73"), looks := true }, kinds := [], alts := [], laidByText := true, laidKinds := [.data, .data, .data, .data, .data, .sentinel, .sentinel, .pinned], laidTests := true, laidLooks := .later }
def ComparesUptoCardSaid : Prop := Claim7.holds Tryz.pinned (.plain (OpenSpec.upto comparesSpec)) comparesUptoCard

/-- THE SECOND FORM's CARD OF 'havenlaw.Inspects'. -/
def inspectsUptoCard : Claim7 := { stood := { row := inspectsUptoRow, standIns := [], harness := (true, "c2f926b37db0926677f8106e0f5349e56e19890fdbb3e657da4358ee94f71f73"), looks := true }, kinds := [], alts := [], laidByText := true, laidKinds := [.data, .data, .data, .data, .data, .sentinel, .sentinel, .pinned], laidTests := true, laidLooks := .later }
def InspectsUptoCardSaid : Prop := Claim7.holds Tryz.pinned (.plain (OpenSpec.upto inspectsSpec)) inspectsUptoCard
end Rows
end Go.Proofs.YtgdmgmklncmanaaGreatDoor
