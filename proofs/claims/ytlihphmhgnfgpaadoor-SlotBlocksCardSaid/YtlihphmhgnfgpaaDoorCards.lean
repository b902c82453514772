/-
  DERIVED. GIVEN WITH THE SEED: THE CARDS: each row of YtlihphmhgnfgpaaDoorRows.lean that lists a variable, with what it lists TIED to the program's text (the seventh form; the later family's looks); each row that meets fmt, with fmt's text TOLD by the authors' own Lean function (tested against real Go, not proved from fmt's source: count such statements apart). THE CARD IS WHAT COUNTS. Prove the row's statement (the work); the ties are given (YtlihphmhgnfgpaaDoorTie.lean); close each card by the builder's one call (the guide's Derived/Test/ToyasCard.lean, 'card_holds'). Laid BY PROGRAM, IN A SANDBOX (cutbox-door.mjs). By AI agents, Wed Nov 11 2026. No macro, syntax, notation, axiom, sorry.
-/
import Derived.Test.YtlihphmhgnfgpaaDoorRows
import GoSem.ClaimSeven
namespace Go.Proofs.YtlihphmhgnfgpaaDoor
namespace Rows

/-- THE TIED CARD OF 'orchardlaw04.SlotPuts'. -/
def slotPutsCard : Claim7 := { stood := { row := slotPutsRow, standIns := [], harness := (true, "d95d76360fac81d7811e509d1a4b689810d17760cfce25673b3ae44b3287d7df"), looks := false }, kinds := [], alts := [], laidByText := true, laidKinds := [.data, .data], laidTests := true, laidLooks := .later }
def SlotPutsCardSaid : Prop := Claim7.holds Tryd.pinned (.plain (OpenSpec.ofChange slotPutsSpec)) slotPutsCard

/-- THE TIED CARD OF 'orchardlaw04.SlotGets'. -/
def slotGetsCard : Claim7 := { stood := { row := slotGetsRow, standIns := [], harness := (true, "d95d76360fac81d7811e509d1a4b689810d17760cfce25673b3ae44b3287d7df"), looks := false }, kinds := [], alts := [], laidByText := true, laidKinds := [.data, .data], laidTests := true, laidLooks := .later }
def SlotGetsCardSaid : Prop := Claim7.holds Tryd.pinned (.plain (OpenSpec.ofChange slotGetsSpec)) slotGetsCard

/-- THE TIED CARD OF 'orchardlaw04.SlotBlocks'. -/
def slotBlocksCard : Claim7 := { stood := { row := slotBlocksRow, standIns := [], harness := (true, "d95d76360fac81d7811e509d1a4b689810d17760cfce25673b3ae44b3287d7df"), looks := false }, kinds := [], alts := [], laidByText := true, laidKinds := [.data, .data], laidTests := true, laidLooks := .later }
def SlotBlocksCardSaid : Prop := Claim7.holds Tryd.pinned (.plain (OpenSpec.ofChange slotBlocksSpec)) slotBlocksCard

/-- THE TIED CARD OF 'orchardlaw04.SlotApart'. -/
def slotApartCard : Claim7 := { stood := { row := slotApartRow, standIns := [], harness := (true, "d95d76360fac81d7811e509d1a4b689810d17760cfce25673b3ae44b3287d7df"), looks := false }, kinds := [], alts := [], laidByText := true, laidKinds := [.data, .data], laidTests := true, laidLooks := .later }
def SlotApartCardSaid : Prop := Claim7.holds Tryd.pinned (.plain (OpenSpec.ofChange slotApartSpec)) slotApartCard

/-- THE TIED CARD OF 'orchardlaw04.SlotTorn'. -/
def slotTornCard : Claim7 := { stood := { row := slotTornRow, standIns := [], harness := (true, "d95d76360fac81d7811e509d1a4b689810d17760cfce25673b3ae44b3287d7df"), looks := false }, kinds := [], alts := [], laidByText := true, laidKinds := [.data, .data], laidTests := true, laidLooks := .later }
def SlotTornCardSaid : Prop := Claim7.holds Tryd.pinned (.plain (OpenSpec.ofChange slotTornSpec)) slotTornCard

/-- THE TIED CARD OF 'orchardlaw05.HeadFaults'. -/
def headFaultsCard : Claim7 := { stood := { row := headFaultsRow, standIns := [], harness := (true, "d95d76360fac81d7811e509d1a4b689810d17760cfce25673b3ae44b3287d7df"), looks := false }, kinds := [], alts := [], laidByText := true, laidKinds := [.data, .data], laidTests := true, laidLooks := .later }
def HeadFaultsCardSaid : Prop := Claim7.holds Tryd.pinned (.plain (OpenSpec.ofChange headFaultsSpec)) headFaultsCard

/-- THE TIED CARD OF 'orchardlaw05.HeadCopies'. -/
def headCopiesCard : Claim7 := { stood := { row := headCopiesRow, standIns := [], harness := (true, "d95d76360fac81d7811e509d1a4b689810d17760cfce25673b3ae44b3287d7df"), looks := false }, kinds := [], alts := [], laidByText := true, laidKinds := [.data, .data], laidTests := true, laidLooks := .later }
def HeadCopiesCardSaid : Prop := Claim7.holds Tryd.pinned (.plain (OpenSpec.ofChange headCopiesSpec)) headCopiesCard

/-- THE TIED CARD OF 'orchardlaw05.HeadAgain'. -/
def headAgainCard : Claim7 := { stood := { row := headAgainRow, standIns := [], harness := (true, "d95d76360fac81d7811e509d1a4b689810d17760cfce25673b3ae44b3287d7df"), looks := false }, kinds := [], alts := [], laidByText := true, laidKinds := [.data, .data], laidTests := true, laidLooks := .later }
def HeadAgainCardSaid : Prop := Claim7.holds Tryd.pinned (.plain (OpenSpec.ofChange headAgainSpec)) headAgainCard

/-- THE TIED CARD OF 'orchardlaw05.HeadFew'. -/
def headFewCard : Claim7 := { stood := { row := headFewRow, standIns := [], harness := (true, "d95d76360fac81d7811e509d1a4b689810d17760cfce25673b3ae44b3287d7df"), looks := false }, kinds := [], alts := [], laidByText := true, laidKinds := [.data, .data], laidTests := true, laidLooks := .later }
def HeadFewCardSaid : Prop := Claim7.holds Tryd.pinned (.plain (OpenSpec.ofChange headFewSpec)) headFewCard

/-- THE SECOND FORM's CARD OF 'orchardlaw04.SlotPuts'. -/
def slotPutsUptoCard : Claim7 := { stood := { row := slotPutsUptoRow, standIns := [], harness := (true, "d95d76360fac81d7811e509d1a4b689810d17760cfce25673b3ae44b3287d7df"), looks := false }, kinds := [], alts := [], laidByText := true, laidKinds := [.data, .data], laidTests := true, laidLooks := .later }
def SlotPutsUptoCardSaid : Prop := Claim7.holds Tryd.pinned (.plain (OpenSpec.upto slotPutsSpec)) slotPutsUptoCard

/-- THE SECOND FORM's CARD OF 'orchardlaw04.SlotGets'. -/
def slotGetsUptoCard : Claim7 := { stood := { row := slotGetsUptoRow, standIns := [], harness := (true, "d95d76360fac81d7811e509d1a4b689810d17760cfce25673b3ae44b3287d7df"), looks := false }, kinds := [], alts := [], laidByText := true, laidKinds := [.data, .data], laidTests := true, laidLooks := .later }
def SlotGetsUptoCardSaid : Prop := Claim7.holds Tryd.pinned (.plain (OpenSpec.upto slotGetsSpec)) slotGetsUptoCard

/-- THE SECOND FORM's CARD OF 'orchardlaw04.SlotBlocks'. -/
def slotBlocksUptoCard : Claim7 := { stood := { row := slotBlocksUptoRow, standIns := [], harness := (true, "d95d76360fac81d7811e509d1a4b689810d17760cfce25673b3ae44b3287d7df"), looks := false }, kinds := [], alts := [], laidByText := true, laidKinds := [.data, .data], laidTests := true, laidLooks := .later }
def SlotBlocksUptoCardSaid : Prop := Claim7.holds Tryd.pinned (.plain (OpenSpec.upto slotBlocksSpec)) slotBlocksUptoCard

/-- THE SECOND FORM's CARD OF 'orchardlaw04.SlotApart'. -/
def slotApartUptoCard : Claim7 := { stood := { row := slotApartUptoRow, standIns := [], harness := (true, "d95d76360fac81d7811e509d1a4b689810d17760cfce25673b3ae44b3287d7df"), looks := false }, kinds := [], alts := [], laidByText := true, laidKinds := [.data, .data], laidTests := true, laidLooks := .later }
def SlotApartUptoCardSaid : Prop := Claim7.holds Tryd.pinned (.plain (OpenSpec.upto slotApartSpec)) slotApartUptoCard

/-- THE SECOND FORM's CARD OF 'orchardlaw04.SlotTorn'. -/
def slotTornUptoCard : Claim7 := { stood := { row := slotTornUptoRow, standIns := [], harness := (true, "d95d76360fac81d7811e509d1a4b689810d17760cfce25673b3ae44b3287d7df"), looks := false }, kinds := [], alts := [], laidByText := true, laidKinds := [.data, .data], laidTests := true, laidLooks := .later }
def SlotTornUptoCardSaid : Prop := Claim7.holds Tryd.pinned (.plain (OpenSpec.upto slotTornSpec)) slotTornUptoCard

/-- THE SECOND FORM's CARD OF 'orchardlaw05.HeadFaults'. -/
def headFaultsUptoCard : Claim7 := { stood := { row := headFaultsUptoRow, standIns := [], harness := (true, "d95d76360fac81d7811e509d1a4b689810d17760cfce25673b3ae44b3287d7df"), looks := false }, kinds := [], alts := [], laidByText := true, laidKinds := [.data, .data], laidTests := true, laidLooks := .later }
def HeadFaultsUptoCardSaid : Prop := Claim7.holds Tryd.pinned (.plain (OpenSpec.upto headFaultsSpec)) headFaultsUptoCard

/-- THE SECOND FORM's CARD OF 'orchardlaw05.HeadCopies'. -/
def headCopiesUptoCard : Claim7 := { stood := { row := headCopiesUptoRow, standIns := [], harness := (true, "d95d76360fac81d7811e509d1a4b689810d17760cfce25673b3ae44b3287d7df"), looks := false }, kinds := [], alts := [], laidByText := true, laidKinds := [.data, .data], laidTests := true, laidLooks := .later }
def HeadCopiesUptoCardSaid : Prop := Claim7.holds Tryd.pinned (.plain (OpenSpec.upto headCopiesSpec)) headCopiesUptoCard

/-- THE SECOND FORM's CARD OF 'orchardlaw05.HeadAgain'. -/
def headAgainUptoCard : Claim7 := { stood := { row := headAgainUptoRow, standIns := [], harness := (true, "d95d76360fac81d7811e509d1a4b689810d17760cfce25673b3ae44b3287d7df"), looks := false }, kinds := [], alts := [], laidByText := true, laidKinds := [.data, .data], laidTests := true, laidLooks := .later }
def HeadAgainUptoCardSaid : Prop := Claim7.holds Tryd.pinned (.plain (OpenSpec.upto headAgainSpec)) headAgainUptoCard

/-- THE SECOND FORM's CARD OF 'orchardlaw05.HeadFew'. -/
def headFewUptoCard : Claim7 := { stood := { row := headFewUptoRow, standIns := [], harness := (true, "d95d76360fac81d7811e509d1a4b689810d17760cfce25673b3ae44b3287d7df"), looks := false }, kinds := [], alts := [], laidByText := true, laidKinds := [.data, .data], laidTests := true, laidLooks := .later }
def HeadFewUptoCardSaid : Prop := Claim7.holds Tryd.pinned (.plain (OpenSpec.upto headFewSpec)) headFewUptoCard
end Rows
end Go.Proofs.YtlihphmhgnfgpaaDoor
