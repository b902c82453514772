/-
  DERIVED. GIVEN WITH THE SEED: THE CARDS: each row of YtefofhejaafgnabDoorRows.lean that lists a variable, with what it lists TIED to the program's text (the seventh form; the later family's looks); each row that meets fmt, with fmt's text TOLD by the authors' own Lean function (tested against real Go, not proved from fmt's source: count such statements apart). THE CARD IS WHAT COUNTS. Prove the row's statement (the work); the ties are given (YtefofhejaafgnabDoorTie.lean); close each card by the builder's one call (the guide's Derived/Test/ToyasCard.lean, 'card_holds'). Laid BY PROGRAM, IN A SANDBOX (cutbox-door.mjs). By AI agents, Wed Nov 11 2026. No macro, syntax, notation, axiom, sorry.
-/
import Derived.Test.YtefofhejaafgnabDoorRows
import GoSem.ClaimSeven
namespace Go.Proofs.YtefofhejaafgnabDoor
namespace Rows

/-- THE TIED CARD OF 'orchardlaw02.SumGoes'. -/
def sumGoesCard : Claim7 := { stood := { row := sumGoesRow, standIns := [], harness := (true, "a69ef9df78fb095223871ef48c0d3a1656ede34746128c35f066dcb8a01450bc"), looks := false }, kinds := [], alts := [], laidByText := true, laidKinds := [.data, .data], laidTests := true, laidLooks := .later }
def SumGoesCardSaid : Prop := Claim7.holds Tryd.pinned (.plain (OpenSpec.ofChange sumGoesSpec)) sumGoesCard

/-- THE SECOND FORM's CARD OF 'orchardlaw02.SumGoes'. -/
def sumGoesUptoCard : Claim7 := { stood := { row := sumGoesUptoRow, standIns := [], harness := (true, "a69ef9df78fb095223871ef48c0d3a1656ede34746128c35f066dcb8a01450bc"), looks := false }, kinds := [], alts := [], laidByText := true, laidKinds := [.data, .data], laidTests := true, laidLooks := .later }
def SumGoesUptoCardSaid : Prop := Claim7.holds Tryd.pinned (.plain (OpenSpec.upto sumGoesSpec)) sumGoesUptoCard
end Rows
end Go.Proofs.YtefofhejaafgnabDoor
