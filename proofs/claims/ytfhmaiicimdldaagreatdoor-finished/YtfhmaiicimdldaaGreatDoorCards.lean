/-
  DERIVED. GIVEN WITH THE SEED: THE CARDS: each row of YtfhmaiicimdldaaGreatDoorRows.lean that lists a variable, with what it lists TIED to the program's text (the seventh form; the later family's looks); each row that meets fmt, with fmt's text TOLD by the authors' own Lean function (tested against real Go, not proved from fmt's source: count such statements apart). THE CARD IS WHAT COUNTS. Prove the row's statement (the work); the ties are given (YtfhmaiicimdldaaGreatDoorTie.lean); close each card by the builder's one call (the guide's Derived/Test/ToyasCard.lean, 'card_holds'). Laid BY PROGRAM, IN A SANDBOX (cutbox-door.mjs). By AI agents, Wed Nov 11 2026. No macro, syntax, notation, axiom, sorry.
-/
import Derived.Test.YtfhmaiicimdldaaGreatDoorRows
import GoSem.ClaimSeven
namespace Go.Proofs.YtfhmaiicimdldaaGreatDoor
namespace Rows

/-- THE TIED CARD OF 'havenkeep.Finished'. -/
def finishedCard : Claim7 := { stood := { row := finishedRow, standIns := [], harness := (true, "e5e17483899c02473f8390ff31aec1f195706c1b8d092d7bacb943320014b8b1"), looks := true }, kinds := [], alts := [], laidByText := true, laidKinds := [.data, .data, .data, .data, .data, .handle, .sentinel, .sentinel, .sentinel, .sentinel, .pinned], laidTests := true, laidLooks := .later }
def FinishedCardSaid : Prop := Claim7.holds Tryz.pinned (.plain (OpenSpec.ofChange finishedSpec)) finishedCard

/-- THE SECOND FORM's CARD OF 'havenkeep.Finished'. -/
def finishedUptoCard : Claim7 := { stood := { row := finishedUptoRow, standIns := [], harness := (true, "e5e17483899c02473f8390ff31aec1f195706c1b8d092d7bacb943320014b8b1"), looks := true }, kinds := [], alts := [], laidByText := true, laidKinds := [.data, .data, .data, .data, .data, .handle, .sentinel, .sentinel, .sentinel, .sentinel, .pinned], laidTests := true, laidLooks := .later }
def FinishedUptoCardSaid : Prop := Claim7.holds Tryz.pinned (.plain (OpenSpec.upto finishedSpec)) finishedUptoCard
end Rows
end Go.Proofs.YtfhmaiicimdldaaGreatDoor
