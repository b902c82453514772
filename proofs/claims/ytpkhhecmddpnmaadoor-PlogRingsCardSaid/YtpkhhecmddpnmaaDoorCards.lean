/-
  DERIVED. GIVEN WITH THE SEED: THE CARDS: each row of YtpkhhecmddpnmaaDoorRows.lean that lists a variable, with what it lists TIED to the program's text (the seventh form; the later family's looks); each row that meets fmt, with fmt's text TOLD by the authors' own Lean function (tested against real Go, not proved from fmt's source: count such statements apart). THE CARD IS WHAT COUNTS. Prove the row's statement (the work); the ties are given (YtpkhhecmddpnmaaDoorTie.lean); close each card by the builder's one call (the guide's Derived/Test/ToyasCard.lean, 'card_holds'). Laid BY PROGRAM, IN A SANDBOX (cutbox-door.mjs). By AI agents, Wed Nov 11 2026. No macro, syntax, notation, axiom, sorry.
-/
import Derived.Test.YtpkhhecmddpnmaaDoorRows
import GoSem.ClaimSeven
namespace Go.Proofs.YtpkhhecmddpnmaaDoor
namespace Rows

/-- THE TIED CARD OF 'orchardlaw05.HeadFaults'. -/
def headFaultsCard : Claim7 := { stood := { row := headFaultsRow, standIns := [], harness := (true, "792ac0b779a5f5a30e93d7c6efd987d9788b72093e9bf1530cfa176390769220"), looks := false }, kinds := [], alts := [], laidByText := true, laidKinds := [.data, .data], laidTests := true, laidLooks := .later }
def HeadFaultsCardSaid : Prop := Claim7.holds Tryd.pinned (.plain (OpenSpec.ofChange headFaultsSpec)) headFaultsCard

/-- THE TIED CARD OF 'orchardlaw05.HeadCopies'. -/
def headCopiesCard : Claim7 := { stood := { row := headCopiesRow, standIns := [], harness := (true, "792ac0b779a5f5a30e93d7c6efd987d9788b72093e9bf1530cfa176390769220"), looks := false }, kinds := [], alts := [], laidByText := true, laidKinds := [.data, .data], laidTests := true, laidLooks := .later }
def HeadCopiesCardSaid : Prop := Claim7.holds Tryd.pinned (.plain (OpenSpec.ofChange headCopiesSpec)) headCopiesCard

/-- THE TIED CARD OF 'orchardlaw05.HeadAgain'. -/
def headAgainCard : Claim7 := { stood := { row := headAgainRow, standIns := [], harness := (true, "792ac0b779a5f5a30e93d7c6efd987d9788b72093e9bf1530cfa176390769220"), looks := false }, kinds := [], alts := [], laidByText := true, laidKinds := [.data, .data], laidTests := true, laidLooks := .later }
def HeadAgainCardSaid : Prop := Claim7.holds Tryd.pinned (.plain (OpenSpec.ofChange headAgainSpec)) headAgainCard

/-- THE TIED CARD OF 'orchardlaw05.HeadFew'. -/
def headFewCard : Claim7 := { stood := { row := headFewRow, standIns := [], harness := (true, "792ac0b779a5f5a30e93d7c6efd987d9788b72093e9bf1530cfa176390769220"), looks := false }, kinds := [], alts := [], laidByText := true, laidKinds := [.data, .data], laidTests := true, laidLooks := .later }
def HeadFewCardSaid : Prop := Claim7.holds Tryd.pinned (.plain (OpenSpec.ofChange headFewSpec)) headFewCard

/-- THE TIED CARD OF 'orchardlaw06.PlogHarms'. -/
def plogHarmsCard : Claim7 := { stood := { row := plogHarmsRow, standIns := [], harness := (true, "792ac0b779a5f5a30e93d7c6efd987d9788b72093e9bf1530cfa176390769220"), looks := false }, kinds := [], alts := [], laidByText := true, laidKinds := [.data, .data], laidTests := true, laidLooks := .later }
def PlogHarmsCardSaid : Prop := Claim7.holds Tryd.pinned (.plain (OpenSpec.ofChange plogHarmsSpec)) plogHarmsCard

/-- THE TIED CARD OF 'orchardlaw06.PlogBlocks'. -/
def plogBlocksCard : Claim7 := { stood := { row := plogBlocksRow, standIns := [], harness := (true, "792ac0b779a5f5a30e93d7c6efd987d9788b72093e9bf1530cfa176390769220"), looks := false }, kinds := [], alts := [], laidByText := true, laidKinds := [.data, .data], laidTests := true, laidLooks := .later }
def PlogBlocksCardSaid : Prop := Claim7.holds Tryd.pinned (.plain (OpenSpec.ofChange plogBlocksSpec)) plogBlocksCard

/-- THE TIED CARD OF 'orchardlaw06.PlogErrors'. -/
def plogErrorsCard : Claim7 := { stood := { row := plogErrorsRow, standIns := [], harness := (true, "792ac0b779a5f5a30e93d7c6efd987d9788b72093e9bf1530cfa176390769220"), looks := false }, kinds := [], alts := [], laidByText := true, laidKinds := [.data, .data], laidTests := true, laidLooks := .later }
def PlogErrorsCardSaid : Prop := Claim7.holds Tryd.pinned (.plain (OpenSpec.ofChange plogErrorsSpec)) plogErrorsCard

/-- THE TIED CARD OF 'orchardlaw06.PlogRings'. -/
def plogRingsCard : Claim7 := { stood := { row := plogRingsRow, standIns := [], harness := (true, "792ac0b779a5f5a30e93d7c6efd987d9788b72093e9bf1530cfa176390769220"), looks := false }, kinds := [], alts := [], laidByText := true, laidKinds := [.data, .data], laidTests := true, laidLooks := .later }
def PlogRingsCardSaid : Prop := Claim7.holds Tryd.pinned (.plain (OpenSpec.ofChange plogRingsSpec)) plogRingsCard

/-- THE TIED CARD OF 'orchardlaw06.PlogMends'. -/
def plogMendsCard : Claim7 := { stood := { row := plogMendsRow, standIns := [], harness := (true, "792ac0b779a5f5a30e93d7c6efd987d9788b72093e9bf1530cfa176390769220"), looks := false }, kinds := [], alts := [], laidByText := true, laidKinds := [.data, .data], laidTests := true, laidLooks := .later }
def PlogMendsCardSaid : Prop := Claim7.holds Tryd.pinned (.plain (OpenSpec.ofChange plogMendsSpec)) plogMendsCard

/-- THE TIED CARD OF 'orchardlaw06.PlogCuts'. -/
def plogCutsCard : Claim7 := { stood := { row := plogCutsRow, standIns := [], harness := (true, "792ac0b779a5f5a30e93d7c6efd987d9788b72093e9bf1530cfa176390769220"), looks := false }, kinds := [], alts := [], laidByText := true, laidKinds := [.data, .data], laidTests := true, laidLooks := .later }
def PlogCutsCardSaid : Prop := Claim7.holds Tryd.pinned (.plain (OpenSpec.ofChange plogCutsSpec)) plogCutsCard

/-- THE TIED CARD OF 'orchardlaw06.PlogScrubs'. -/
def plogScrubsCard : Claim7 := { stood := { row := plogScrubsRow, standIns := [], harness := (true, "792ac0b779a5f5a30e93d7c6efd987d9788b72093e9bf1530cfa176390769220"), looks := false }, kinds := [], alts := [], laidByText := true, laidKinds := [.data, .data], laidTests := true, laidLooks := .later }
def PlogScrubsCardSaid : Prop := Claim7.holds Tryd.pinned (.plain (OpenSpec.ofChange plogScrubsSpec)) plogScrubsCard

/-- THE TIED CARD OF 'orchardlaw06.PlogDrops'. -/
def plogDropsCard : Claim7 := { stood := { row := plogDropsRow, standIns := [], harness := (true, "792ac0b779a5f5a30e93d7c6efd987d9788b72093e9bf1530cfa176390769220"), looks := false }, kinds := [], alts := [], laidByText := true, laidKinds := [.data, .data], laidTests := true, laidLooks := .later }
def PlogDropsCardSaid : Prop := Claim7.holds Tryd.pinned (.plain (OpenSpec.ofChange plogDropsSpec)) plogDropsCard

/-- THE SECOND FORM's CARD OF 'orchardlaw05.HeadFaults'. -/
def headFaultsUptoCard : Claim7 := { stood := { row := headFaultsUptoRow, standIns := [], harness := (true, "792ac0b779a5f5a30e93d7c6efd987d9788b72093e9bf1530cfa176390769220"), looks := false }, kinds := [], alts := [], laidByText := true, laidKinds := [.data, .data], laidTests := true, laidLooks := .later }
def HeadFaultsUptoCardSaid : Prop := Claim7.holds Tryd.pinned (.plain (OpenSpec.upto headFaultsSpec)) headFaultsUptoCard

/-- THE SECOND FORM's CARD OF 'orchardlaw05.HeadCopies'. -/
def headCopiesUptoCard : Claim7 := { stood := { row := headCopiesUptoRow, standIns := [], harness := (true, "792ac0b779a5f5a30e93d7c6efd987d9788b72093e9bf1530cfa176390769220"), looks := false }, kinds := [], alts := [], laidByText := true, laidKinds := [.data, .data], laidTests := true, laidLooks := .later }
def HeadCopiesUptoCardSaid : Prop := Claim7.holds Tryd.pinned (.plain (OpenSpec.upto headCopiesSpec)) headCopiesUptoCard

/-- THE SECOND FORM's CARD OF 'orchardlaw05.HeadAgain'. -/
def headAgainUptoCard : Claim7 := { stood := { row := headAgainUptoRow, standIns := [], harness := (true, "792ac0b779a5f5a30e93d7c6efd987d9788b72093e9bf1530cfa176390769220"), looks := false }, kinds := [], alts := [], laidByText := true, laidKinds := [.data, .data], laidTests := true, laidLooks := .later }
def HeadAgainUptoCardSaid : Prop := Claim7.holds Tryd.pinned (.plain (OpenSpec.upto headAgainSpec)) headAgainUptoCard

/-- THE SECOND FORM's CARD OF 'orchardlaw05.HeadFew'. -/
def headFewUptoCard : Claim7 := { stood := { row := headFewUptoRow, standIns := [], harness := (true, "792ac0b779a5f5a30e93d7c6efd987d9788b72093e9bf1530cfa176390769220"), looks := false }, kinds := [], alts := [], laidByText := true, laidKinds := [.data, .data], laidTests := true, laidLooks := .later }
def HeadFewUptoCardSaid : Prop := Claim7.holds Tryd.pinned (.plain (OpenSpec.upto headFewSpec)) headFewUptoCard

/-- THE SECOND FORM's CARD OF 'orchardlaw06.PlogHarms'. -/
def plogHarmsUptoCard : Claim7 := { stood := { row := plogHarmsUptoRow, standIns := [], harness := (true, "792ac0b779a5f5a30e93d7c6efd987d9788b72093e9bf1530cfa176390769220"), looks := false }, kinds := [], alts := [], laidByText := true, laidKinds := [.data, .data], laidTests := true, laidLooks := .later }
def PlogHarmsUptoCardSaid : Prop := Claim7.holds Tryd.pinned (.plain (OpenSpec.upto plogHarmsSpec)) plogHarmsUptoCard

/-- THE SECOND FORM's CARD OF 'orchardlaw06.PlogBlocks'. -/
def plogBlocksUptoCard : Claim7 := { stood := { row := plogBlocksUptoRow, standIns := [], harness := (true, "792ac0b779a5f5a30e93d7c6efd987d9788b72093e9bf1530cfa176390769220"), looks := false }, kinds := [], alts := [], laidByText := true, laidKinds := [.data, .data], laidTests := true, laidLooks := .later }
def PlogBlocksUptoCardSaid : Prop := Claim7.holds Tryd.pinned (.plain (OpenSpec.upto plogBlocksSpec)) plogBlocksUptoCard

/-- THE SECOND FORM's CARD OF 'orchardlaw06.PlogErrors'. -/
def plogErrorsUptoCard : Claim7 := { stood := { row := plogErrorsUptoRow, standIns := [], harness := (true, "792ac0b779a5f5a30e93d7c6efd987d9788b72093e9bf1530cfa176390769220"), looks := false }, kinds := [], alts := [], laidByText := true, laidKinds := [.data, .data], laidTests := true, laidLooks := .later }
def PlogErrorsUptoCardSaid : Prop := Claim7.holds Tryd.pinned (.plain (OpenSpec.upto plogErrorsSpec)) plogErrorsUptoCard

/-- THE SECOND FORM's CARD OF 'orchardlaw06.PlogRings'. -/
def plogRingsUptoCard : Claim7 := { stood := { row := plogRingsUptoRow, standIns := [], harness := (true, "792ac0b779a5f5a30e93d7c6efd987d9788b72093e9bf1530cfa176390769220"), looks := false }, kinds := [], alts := [], laidByText := true, laidKinds := [.data, .data], laidTests := true, laidLooks := .later }
def PlogRingsUptoCardSaid : Prop := Claim7.holds Tryd.pinned (.plain (OpenSpec.upto plogRingsSpec)) plogRingsUptoCard

/-- THE SECOND FORM's CARD OF 'orchardlaw06.PlogMends'. -/
def plogMendsUptoCard : Claim7 := { stood := { row := plogMendsUptoRow, standIns := [], harness := (true, "792ac0b779a5f5a30e93d7c6efd987d9788b72093e9bf1530cfa176390769220"), looks := false }, kinds := [], alts := [], laidByText := true, laidKinds := [.data, .data], laidTests := true, laidLooks := .later }
def PlogMendsUptoCardSaid : Prop := Claim7.holds Tryd.pinned (.plain (OpenSpec.upto plogMendsSpec)) plogMendsUptoCard

/-- THE SECOND FORM's CARD OF 'orchardlaw06.PlogCuts'. -/
def plogCutsUptoCard : Claim7 := { stood := { row := plogCutsUptoRow, standIns := [], harness := (true, "792ac0b779a5f5a30e93d7c6efd987d9788b72093e9bf1530cfa176390769220"), looks := false }, kinds := [], alts := [], laidByText := true, laidKinds := [.data, .data], laidTests := true, laidLooks := .later }
def PlogCutsUptoCardSaid : Prop := Claim7.holds Tryd.pinned (.plain (OpenSpec.upto plogCutsSpec)) plogCutsUptoCard

/-- THE SECOND FORM's CARD OF 'orchardlaw06.PlogScrubs'. -/
def plogScrubsUptoCard : Claim7 := { stood := { row := plogScrubsUptoRow, standIns := [], harness := (true, "792ac0b779a5f5a30e93d7c6efd987d9788b72093e9bf1530cfa176390769220"), looks := false }, kinds := [], alts := [], laidByText := true, laidKinds := [.data, .data], laidTests := true, laidLooks := .later }
def PlogScrubsUptoCardSaid : Prop := Claim7.holds Tryd.pinned (.plain (OpenSpec.upto plogScrubsSpec)) plogScrubsUptoCard

/-- THE SECOND FORM's CARD OF 'orchardlaw06.PlogDrops'. -/
def plogDropsUptoCard : Claim7 := { stood := { row := plogDropsUptoRow, standIns := [], harness := (true, "792ac0b779a5f5a30e93d7c6efd987d9788b72093e9bf1530cfa176390769220"), looks := false }, kinds := [], alts := [], laidByText := true, laidKinds := [.data, .data], laidTests := true, laidLooks := .later }
def PlogDropsUptoCardSaid : Prop := Claim7.holds Tryd.pinned (.plain (OpenSpec.upto plogDropsSpec)) plogDropsUptoCard
end Rows
end Go.Proofs.YtpkhhecmddpnmaaDoor
