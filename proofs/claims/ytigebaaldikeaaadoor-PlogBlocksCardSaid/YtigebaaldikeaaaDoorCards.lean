/-
  DERIVED. GIVEN WITH THE SEED: THE CARDS: each row of YtigebaaldikeaaaDoorRows.lean that lists a variable, with what it lists TIED to the program's text (the seventh form; the later family's looks); each row that meets fmt, with fmt's text TOLD by the authors' own Lean function (tested against real Go, not proved from fmt's source: count such statements apart). THE CARD IS WHAT COUNTS. Prove the row's statement (the work); the ties are given (YtigebaaldikeaaaDoorTie.lean); close each card by the builder's one call (the guide's Derived/Test/ToyasCard.lean, 'card_holds'). Laid BY PROGRAM, IN A SANDBOX (cutbox-door.mjs). By AI agents, Wed Nov 11 2026. No macro, syntax, notation, axiom, sorry.
-/
import Derived.Test.YtigebaaldikeaaaDoorRows
import GoSem.ClaimSeven
namespace Go.Proofs.YtigebaaldikeaaaDoor
namespace Rows

/-- THE TIED CARD OF 'orchardlaw05.HeadFaults'. -/
def headFaultsCard : Claim7 := { stood := { row := headFaultsRow, standIns := [], harness := (true, "05fac83352bd6493b4629cd1efdaed50c6665c5b01fdc177dec181e12ebb2814"), looks := false }, kinds := [], alts := [], laidByText := true, laidKinds := [.data, .data], laidTests := true, laidLooks := .later }
def HeadFaultsCardSaid : Prop := Claim7.holds Tryd.pinned (.plain (OpenSpec.ofChange headFaultsSpec)) headFaultsCard

/-- THE TIED CARD OF 'orchardlaw05.HeadFew'. -/
def headFewCard : Claim7 := { stood := { row := headFewRow, standIns := [], harness := (true, "05fac83352bd6493b4629cd1efdaed50c6665c5b01fdc177dec181e12ebb2814"), looks := false }, kinds := [], alts := [], laidByText := true, laidKinds := [.data, .data], laidTests := true, laidLooks := .later }
def HeadFewCardSaid : Prop := Claim7.holds Tryd.pinned (.plain (OpenSpec.ofChange headFewSpec)) headFewCard

/-- THE TIED CARD OF 'orchardlaw06.PlogHarms'. -/
def plogHarmsCard : Claim7 := { stood := { row := plogHarmsRow, standIns := [], harness := (true, "05fac83352bd6493b4629cd1efdaed50c6665c5b01fdc177dec181e12ebb2814"), looks := false }, kinds := [], alts := [], laidByText := true, laidKinds := [.data, .data], laidTests := true, laidLooks := .later }
def PlogHarmsCardSaid : Prop := Claim7.holds Tryd.pinned (.plain (OpenSpec.ofChange plogHarmsSpec)) plogHarmsCard

/-- THE TIED CARD OF 'orchardlaw06.PlogBlocks'. -/
def plogBlocksCard : Claim7 := { stood := { row := plogBlocksRow, standIns := [], harness := (true, "05fac83352bd6493b4629cd1efdaed50c6665c5b01fdc177dec181e12ebb2814"), looks := false }, kinds := [], alts := [], laidByText := true, laidKinds := [.data, .data], laidTests := true, laidLooks := .later }
def PlogBlocksCardSaid : Prop := Claim7.holds Tryd.pinned (.plain (OpenSpec.ofChange plogBlocksSpec)) plogBlocksCard

/-- THE SECOND FORM's CARD OF 'orchardlaw05.HeadFaults'. -/
def headFaultsUptoCard : Claim7 := { stood := { row := headFaultsUptoRow, standIns := [], harness := (true, "05fac83352bd6493b4629cd1efdaed50c6665c5b01fdc177dec181e12ebb2814"), looks := false }, kinds := [], alts := [], laidByText := true, laidKinds := [.data, .data], laidTests := true, laidLooks := .later }
def HeadFaultsUptoCardSaid : Prop := Claim7.holds Tryd.pinned (.plain (OpenSpec.upto headFaultsSpec)) headFaultsUptoCard

/-- THE SECOND FORM's CARD OF 'orchardlaw05.HeadFew'. -/
def headFewUptoCard : Claim7 := { stood := { row := headFewUptoRow, standIns := [], harness := (true, "05fac83352bd6493b4629cd1efdaed50c6665c5b01fdc177dec181e12ebb2814"), looks := false }, kinds := [], alts := [], laidByText := true, laidKinds := [.data, .data], laidTests := true, laidLooks := .later }
def HeadFewUptoCardSaid : Prop := Claim7.holds Tryd.pinned (.plain (OpenSpec.upto headFewSpec)) headFewUptoCard

/-- THE SECOND FORM's CARD OF 'orchardlaw06.PlogHarms'. -/
def plogHarmsUptoCard : Claim7 := { stood := { row := plogHarmsUptoRow, standIns := [], harness := (true, "05fac83352bd6493b4629cd1efdaed50c6665c5b01fdc177dec181e12ebb2814"), looks := false }, kinds := [], alts := [], laidByText := true, laidKinds := [.data, .data], laidTests := true, laidLooks := .later }
def PlogHarmsUptoCardSaid : Prop := Claim7.holds Tryd.pinned (.plain (OpenSpec.upto plogHarmsSpec)) plogHarmsUptoCard

/-- THE SECOND FORM's CARD OF 'orchardlaw06.PlogBlocks'. -/
def plogBlocksUptoCard : Claim7 := { stood := { row := plogBlocksUptoRow, standIns := [], harness := (true, "05fac83352bd6493b4629cd1efdaed50c6665c5b01fdc177dec181e12ebb2814"), looks := false }, kinds := [], alts := [], laidByText := true, laidKinds := [.data, .data], laidTests := true, laidLooks := .later }
def PlogBlocksUptoCardSaid : Prop := Claim7.holds Tryd.pinned (.plain (OpenSpec.upto plogBlocksSpec)) plogBlocksUptoCard
end Rows
end Go.Proofs.YtigebaaldikeaaaDoor
