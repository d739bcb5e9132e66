/-
  DERIVED. GIVEN WITH THE SEED: THE CARDS: each row of YtmjnobdlgbojoaaGreatDoorRows.lean that lists a variable, with what it lists TIED to the program's text (the seventh form; the later family's looks); each row that meets fmt, with fmt's text TOLD by the authors' own Lean function (tested against real Go, not proved from fmt's source: count such statements apart). THE CARD IS WHAT COUNTS. Prove the row's statement (the work); the ties are given (YtmjnobdlgbojoaaGreatDoorTie.lean); close each card by the builder's one call (the guide's Derived/Test/ToyasCard.lean, 'card_holds'). Laid BY PROGRAM, IN A SANDBOX (cutbox-door.mjs). By AI agents, Wed Nov 11 2026. No macro, syntax, notation, axiom, sorry.
-/
import Derived.Test.YtmjnobdlgbojoaaGreatDoorRows
import GoSem.ClaimSeven
namespace Go.Proofs.YtmjnobdlgbojoaaGreatDoor
namespace Rows

/-- THE TIED CARD OF 'heronlaw08.SimPieces'. -/
def simPiecesCard : Claim7 := { stood := { row := simPiecesRow, standIns := [], harness := (true, "66834978518c9fa9d43f84434caac0306035ee04bf133c7f092ef8d32733c52e"), looks := true }, kinds := [], alts := [], laidByText := true, laidKinds := [.data], laidTests := true, laidLooks := .later }
def SimPiecesCardSaid : Prop := Claim7.holds Tryz.pinned (.plain (OpenSpec.ofChange simPiecesSpec)) simPiecesCard

/-- THE SECOND FORM's CARD OF 'heronlaw08.SimPieces'. -/
def simPiecesUptoCard : Claim7 := { stood := { row := simPiecesUptoRow, standIns := [], harness := (true, "66834978518c9fa9d43f84434caac0306035ee04bf133c7f092ef8d32733c52e"), looks := true }, kinds := [], alts := [], laidByText := true, laidKinds := [.data], laidTests := true, laidLooks := .later }
def SimPiecesUptoCardSaid : Prop := Claim7.holds Tryz.pinned (.plain (OpenSpec.upto simPiecesSpec)) simPiecesUptoCard
end Rows
end Go.Proofs.YtmjnobdlgbojoaaGreatDoor
