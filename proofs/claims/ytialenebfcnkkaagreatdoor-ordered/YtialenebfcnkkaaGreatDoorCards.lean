/-
  DERIVED. GIVEN WITH THE SEED: THE CARDS: each row of YtialenebfcnkkaaGreatDoorRows.lean that lists a variable, with what it lists TIED to the program's text (the seventh form; the later family's looks); each row that meets fmt, with fmt's text TOLD by the authors' own Lean function (tested against real Go, not proved from fmt's source: count such statements apart). THE CARD IS WHAT COUNTS. Prove the row's statement (the work); the ties are given (YtialenebfcnkkaaGreatDoorTie.lean); close each card by the builder's one call (the guide's Derived/Test/ToyasCard.lean, 'card_holds'). Laid BY PROGRAM, IN A SANDBOX (cutbox-door.mjs). By AI agents, Wed Nov 11 2026. No macro, syntax, notation, axiom, sorry.
-/
import Derived.Test.YtialenebfcnkkaaGreatDoorRows
import GoSem.ClaimSeven
namespace Go.Proofs.YtialenebfcnkkaaGreatDoor
namespace Rows

/-- THE TIED CARD OF 'havenkeep.Ordered'. -/
def orderedCard : Claim7 := { stood := { row := orderedRow, standIns := [], harness := (true, "06ab6864c07a3be6a20deab236d78aa99e811cef0ade01ca32b0511c046a2b12"), looks := true }, kinds := [], alts := [], laidByText := true, laidKinds := [.data, .data, .data, .data, .data, .handle, .sentinel, .sentinel, .sentinel, .sentinel, .pinned], laidTests := true, laidLooks := .later }
def OrderedCardSaid : Prop := Claim7.holds Tryz.pinned (.plain (OpenSpec.ofChange orderedSpec)) orderedCard

/-- THE TIED CARD OF 'havenkeep.Woken'. -/
def wokenCard : Claim7 := { stood := { row := wokenRow, standIns := [], harness := (true, "06ab6864c07a3be6a20deab236d78aa99e811cef0ade01ca32b0511c046a2b12"), looks := true }, kinds := [], alts := [], laidByText := true, laidKinds := [.data, .data, .data, .data, .data, .handle, .sentinel, .sentinel, .sentinel, .sentinel, .pinned], laidTests := true, laidLooks := .later }
def WokenCardSaid : Prop := Claim7.holds Tryz.pinned (.plain (OpenSpec.ofChange wokenSpec)) wokenCard

/-- THE SECOND FORM's CARD OF 'havenkeep.Ordered'. -/
def orderedUptoCard : Claim7 := { stood := { row := orderedUptoRow, standIns := [], harness := (true, "06ab6864c07a3be6a20deab236d78aa99e811cef0ade01ca32b0511c046a2b12"), looks := true }, kinds := [], alts := [], laidByText := true, laidKinds := [.data, .data, .data, .data, .data, .handle, .sentinel, .sentinel, .sentinel, .sentinel, .pinned], laidTests := true, laidLooks := .later }
def OrderedUptoCardSaid : Prop := Claim7.holds Tryz.pinned (.plain (OpenSpec.upto orderedSpec)) orderedUptoCard

/-- THE SECOND FORM's CARD OF 'havenkeep.Woken'. -/
def wokenUptoCard : Claim7 := { stood := { row := wokenUptoRow, standIns := [], harness := (true, "06ab6864c07a3be6a20deab236d78aa99e811cef0ade01ca32b0511c046a2b12"), looks := true }, kinds := [], alts := [], laidByText := true, laidKinds := [.data, .data, .data, .data, .data, .handle, .sentinel, .sentinel, .sentinel, .sentinel, .pinned], laidTests := true, laidLooks := .later }
def WokenUptoCardSaid : Prop := Claim7.holds Tryz.pinned (.plain (OpenSpec.upto wokenSpec)) wokenUptoCard
end Rows
end Go.Proofs.YtialenebfcnkkaaGreatDoor
