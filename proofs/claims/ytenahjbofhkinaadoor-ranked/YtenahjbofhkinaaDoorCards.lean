/-
  DERIVED. GIVEN WITH THE SEED: THE CARDS: each row of YtenahjbofhkinaaDoorRows.lean that lists a variable, with what it lists TIED to the program's text (the seventh form; the later family's looks); each row that meets fmt, with fmt's text TOLD by the authors' own Lean function (tested against real Go, not proved from fmt's source: count such statements apart). THE CARD IS WHAT COUNTS. Prove the row's statement (the work); the ties are given (YtenahjbofhkinaaDoorTie.lean); close each card by the builder's one call (the guide's Derived/Test/ToyasCard.lean, 'card_holds'). Laid BY PROGRAM, IN A SANDBOX (cutbox-door.mjs). By AI agents, Wed Nov 11 2026. No macro, syntax, notation, axiom, sorry.
-/
import Derived.Test.YtenahjbofhkinaaDoorRows
import GoSem.ClaimSeven
namespace Go.Proofs.YtenahjbofhkinaaDoor
namespace Rows

/-- THE TIED CARD OF 'havenkeep.Ranked'. -/
def rankedCard : Claim7 := { stood := { row := rankedRow, standIns := [], harness := (true, "aec3b6f89c35bf71752e1d41a05bc7103554e2abfb4d617fe6ab34251bed6f96"), looks := false }, kinds := [], alts := [], laidByText := true, laidKinds := [.data, .pinned], laidTests := true, laidLooks := .later }
def RankedCardSaid : Prop := Claim7.holds Tryd.pinned (.plain (OpenSpec.ofChange rankedSpec)) rankedCard

/-- THE SECOND FORM's CARD OF 'havenkeep.Ranked'. -/
def rankedUptoCard : Claim7 := { stood := { row := rankedUptoRow, standIns := [], harness := (true, "aec3b6f89c35bf71752e1d41a05bc7103554e2abfb4d617fe6ab34251bed6f96"), looks := false }, kinds := [], alts := [], laidByText := true, laidKinds := [.data, .pinned], laidTests := true, laidLooks := .later }
def RankedUptoCardSaid : Prop := Claim7.holds Tryd.pinned (.plain (OpenSpec.upto rankedSpec)) rankedUptoCard
end Rows
end Go.Proofs.YtenahjbofhkinaaDoor
