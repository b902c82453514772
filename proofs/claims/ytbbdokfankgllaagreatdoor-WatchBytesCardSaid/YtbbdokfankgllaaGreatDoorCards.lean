/-
  DERIVED. GIVEN WITH THE SEED: THE CARDS: each row of YtbbdokfankgllaaGreatDoorRows.lean that lists a variable, with what it lists TIED to the program's text (the seventh form; the later family's looks); each row that meets fmt, with fmt's text TOLD by the authors' own Lean function (tested against real Go, not proved from fmt's source: count such statements apart). THE CARD IS WHAT COUNTS. Prove the row's statement (the work); the ties are given (YtbbdokfankgllaaGreatDoorTie.lean); close each card by the builder's one call (the guide's Derived/Test/ToyasCard.lean, 'card_holds'). Laid BY PROGRAM, IN A SANDBOX (cutbox-door.mjs). By AI agents, Wed Nov 11 2026. No macro, syntax, notation, axiom, sorry.
-/
import Derived.Test.YtbbdokfankgllaaGreatDoorRows
import GoSem.ClaimSeven
namespace Go.Proofs.YtbbdokfankgllaaGreatDoor
namespace Rows

/-- THE TIED CARD OF 'orchardlaw11.WatchBytes'. -/
def watchBytesCard : Claim7 := { stood := { row := watchBytesRow, standIns := [], harness := (true, "16e870ad091eb9575c98c559d2439e7064e1c97996a5087c96c40ab3dc7488e4"), looks := true }, kinds := [], alts := [], laidByText := true, laidKinds := [.data, .pinned], laidTests := true, laidLooks := .later }
def WatchBytesCardSaid : Prop := Claim7.holds Tryz.pinned (.plain (OpenSpec.ofChange watchBytesSpec)) watchBytesCard

/-- THE SECOND FORM's CARD OF 'orchardlaw11.WatchBytes'. -/
def watchBytesUptoCard : Claim7 := { stood := { row := watchBytesUptoRow, standIns := [], harness := (true, "16e870ad091eb9575c98c559d2439e7064e1c97996a5087c96c40ab3dc7488e4"), looks := true }, kinds := [], alts := [], laidByText := true, laidKinds := [.data, .pinned], laidTests := true, laidLooks := .later }
def WatchBytesUptoCardSaid : Prop := Claim7.holds Tryz.pinned (.plain (OpenSpec.upto watchBytesSpec)) watchBytesUptoCard
end Rows
end Go.Proofs.YtbbdokfankgllaaGreatDoor
