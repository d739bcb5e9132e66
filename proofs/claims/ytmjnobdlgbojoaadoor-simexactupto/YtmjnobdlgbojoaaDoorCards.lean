/-
  DERIVED. GIVEN WITH THE SEED: THE CARDS: each row of YtmjnobdlgbojoaaDoorRows.lean that lists a variable, with what it lists TIED to the program's text (the seventh form; the later family's looks); each row that meets fmt, with fmt's text TOLD by the authors' own Lean function (tested against real Go, not proved from fmt's source: count such statements apart). THE CARD IS WHAT COUNTS. Prove the row's statement (the work); the ties are given (YtmjnobdlgbojoaaDoorTie.lean); close each card by the builder's one call (the guide's Derived/Test/ToyasCard.lean, 'card_holds'). Laid BY PROGRAM, IN A SANDBOX (cutbox-door.mjs). By AI agents, Wed Nov 11 2026. No macro, syntax, notation, axiom, sorry.
-/
import Derived.Test.YtmjnobdlgbojoaaDoorRows
import GoSem.ClaimSeven
namespace Go.Proofs.YtmjnobdlgbojoaaDoor
namespace Rows

/-- THE TIED CARD OF 'heronlaw08.SimStates'. -/
def simStatesCard : Claim7 := { stood := { row := simStatesRow, standIns := [], harness := (true, "234e85424303ad01a6a9a0d09f08ebe4fefdb96b74dff41ebb95a4cb77c17961"), looks := false }, kinds := [], alts := [], laidByText := true, laidKinds := [.data], laidTests := true, laidLooks := .later }
def SimStatesCardSaid : Prop := Claim7.holds Tryd.pinned (.plain (OpenSpec.ofChange simStatesSpec)) simStatesCard

/-- THE TIED CARD OF 'heronlaw08.SimExact'. -/
def simExactCard : Claim7 := { stood := { row := simExactRow, standIns := [], harness := (true, "234e85424303ad01a6a9a0d09f08ebe4fefdb96b74dff41ebb95a4cb77c17961"), looks := false }, kinds := [], alts := [], laidByText := true, laidKinds := [.data], laidTests := true, laidLooks := .later }
def SimExactCardSaid : Prop := Claim7.holds Tryd.pinned (.plain (OpenSpec.ofChange simExactSpec)) simExactCard

/-- THE SECOND FORM's CARD OF 'heronlaw08.SimStates'. -/
def simStatesUptoCard : Claim7 := { stood := { row := simStatesUptoRow, standIns := [], harness := (true, "234e85424303ad01a6a9a0d09f08ebe4fefdb96b74dff41ebb95a4cb77c17961"), looks := false }, kinds := [], alts := [], laidByText := true, laidKinds := [.data], laidTests := true, laidLooks := .later }
def SimStatesUptoCardSaid : Prop := Claim7.holds Tryd.pinned (.plain (OpenSpec.upto simStatesSpec)) simStatesUptoCard

/-- THE SECOND FORM's CARD OF 'heronlaw08.SimExact'. -/
def simExactUptoCard : Claim7 := { stood := { row := simExactUptoRow, standIns := [], harness := (true, "234e85424303ad01a6a9a0d09f08ebe4fefdb96b74dff41ebb95a4cb77c17961"), looks := false }, kinds := [], alts := [], laidByText := true, laidKinds := [.data], laidTests := true, laidLooks := .later }
def SimExactUptoCardSaid : Prop := Claim7.holds Tryd.pinned (.plain (OpenSpec.upto simExactSpec)) simExactUptoCard
end Rows
end Go.Proofs.YtmjnobdlgbojoaaDoor
