/-
  DERIVED. GIVEN WITH THE SEED: THE CARDS: each row of YtiknfifiglooeaaDoorRows.lean that lists a variable, with what it lists TIED to the program's text (the seventh form; the later family's looks); each row that meets fmt, with fmt's text TOLD by the authors' own Lean function (tested against real Go, not proved from fmt's source: count such statements apart). THE CARD IS WHAT COUNTS. Prove the row's statement (the work); the ties are given (YtiknfifiglooeaaDoorTie.lean); close each card by the builder's one call (the guide's Derived/Test/ToyasCard.lean, 'card_holds'). Laid BY PROGRAM, IN A SANDBOX (cutbox-door.mjs). By AI agents, Wed Nov 11 2026. No macro, syntax, notation, axiom, sorry.
-/
import Derived.Test.YtiknfifiglooeaaDoorRows
import GoSem.ClaimSeven
namespace Go.Proofs.YtiknfifiglooeaaDoor
namespace Rows

/-- THE TIED CARD OF 'orchardlaw06.PlogHarms'. -/
def plogHarmsCard : Claim7 := { stood := { row := plogHarmsRow, standIns := [], harness := (true, "115e06a90b906b4a28273874f9d01452fec56e1f600953276d435aef20e40e0d"), looks := false }, kinds := [], alts := [], laidByText := true, laidKinds := [.data, .data], laidTests := true, laidLooks := .later }
def PlogHarmsCardSaid : Prop := Claim7.holds Tryd.pinned (.plain (OpenSpec.ofChange plogHarmsSpec)) plogHarmsCard

/-- THE TIED CARD OF 'orchardlaw06.PlogBlocks'. -/
def plogBlocksCard : Claim7 := { stood := { row := plogBlocksRow, standIns := [], harness := (true, "115e06a90b906b4a28273874f9d01452fec56e1f600953276d435aef20e40e0d"), looks := false }, kinds := [], alts := [], laidByText := true, laidKinds := [.data, .data], laidTests := true, laidLooks := .later }
def PlogBlocksCardSaid : Prop := Claim7.holds Tryd.pinned (.plain (OpenSpec.ofChange plogBlocksSpec)) plogBlocksCard

/-- THE TIED CARD OF 'orchardlaw07.ChunkCuts'. -/
def chunkCutsCard : Claim7 := { stood := { row := chunkCutsRow, standIns := [], harness := (true, "115e06a90b906b4a28273874f9d01452fec56e1f600953276d435aef20e40e0d"), looks := false }, kinds := [], alts := [], laidByText := true, laidKinds := [.data, .data], laidTests := true, laidLooks := .later }
def ChunkCutsCardSaid : Prop := Claim7.holds Tryd.pinned (.plain (OpenSpec.ofChange chunkCutsSpec)) chunkCutsCard

/-- THE TIED CARD OF 'orchardlaw07.ChunkPuts'. -/
def chunkPutsCard : Claim7 := { stood := { row := chunkPutsRow, standIns := [], harness := (true, "115e06a90b906b4a28273874f9d01452fec56e1f600953276d435aef20e40e0d"), looks := false }, kinds := [], alts := [], laidByText := true, laidKinds := [.data, .data], laidTests := true, laidLooks := .later }
def ChunkPutsCardSaid : Prop := Claim7.holds Tryd.pinned (.plain (OpenSpec.ofChange chunkPutsSpec)) chunkPutsCard

/-- THE TIED CARD OF 'orchardlaw07.ChunkHarms'. -/
def chunkHarmsCard : Claim7 := { stood := { row := chunkHarmsRow, standIns := [], harness := (true, "115e06a90b906b4a28273874f9d01452fec56e1f600953276d435aef20e40e0d"), looks := false }, kinds := [], alts := [], laidByText := true, laidKinds := [.data, .data], laidTests := true, laidLooks := .later }
def ChunkHarmsCardSaid : Prop := Claim7.holds Tryd.pinned (.plain (OpenSpec.ofChange chunkHarmsSpec)) chunkHarmsCard

/-- THE TIED CARD OF 'orchardlaw07.ChunkBlocks'. -/
def chunkBlocksCard : Claim7 := { stood := { row := chunkBlocksRow, standIns := [], harness := (true, "115e06a90b906b4a28273874f9d01452fec56e1f600953276d435aef20e40e0d"), looks := false }, kinds := [], alts := [], laidByText := true, laidKinds := [.data, .data], laidTests := true, laidLooks := .later }
def ChunkBlocksCardSaid : Prop := Claim7.holds Tryd.pinned (.plain (OpenSpec.ofChange chunkBlocksSpec)) chunkBlocksCard

/-- THE TIED CARD OF 'orchardlaw07.ChunkAreas'. -/
def chunkAreasCard : Claim7 := { stood := { row := chunkAreasRow, standIns := [], harness := (true, "115e06a90b906b4a28273874f9d01452fec56e1f600953276d435aef20e40e0d"), looks := false }, kinds := [], alts := [], laidByText := true, laidKinds := [.data, .data], laidTests := true, laidLooks := .later }
def ChunkAreasCardSaid : Prop := Claim7.holds Tryd.pinned (.plain (OpenSpec.ofChange chunkAreasSpec)) chunkAreasCard

/-- THE TIED CARD OF 'orchardlaw07.ChunkMended'. -/
def chunkMendedCard : Claim7 := { stood := { row := chunkMendedRow, standIns := [], harness := (true, "115e06a90b906b4a28273874f9d01452fec56e1f600953276d435aef20e40e0d"), looks := false }, kinds := [], alts := [], laidByText := true, laidKinds := [.data, .data], laidTests := true, laidLooks := .later }
def ChunkMendedCardSaid : Prop := Claim7.holds Tryd.pinned (.plain (OpenSpec.ofChange chunkMendedSpec)) chunkMendedCard

/-- THE TIED CARD OF 'orchardlaw07.ChunkOthers'. -/
def chunkOthersCard : Claim7 := { stood := { row := chunkOthersRow, standIns := [], harness := (true, "115e06a90b906b4a28273874f9d01452fec56e1f600953276d435aef20e40e0d"), looks := false }, kinds := [], alts := [], laidByText := true, laidKinds := [.data, .data], laidTests := true, laidLooks := .later }
def ChunkOthersCardSaid : Prop := Claim7.holds Tryd.pinned (.plain (OpenSpec.ofChange chunkOthersSpec)) chunkOthersCard

/-- THE SECOND FORM's CARD OF 'orchardlaw06.PlogHarms'. -/
def plogHarmsUptoCard : Claim7 := { stood := { row := plogHarmsUptoRow, standIns := [], harness := (true, "115e06a90b906b4a28273874f9d01452fec56e1f600953276d435aef20e40e0d"), looks := false }, kinds := [], alts := [], laidByText := true, laidKinds := [.data, .data], laidTests := true, laidLooks := .later }
def PlogHarmsUptoCardSaid : Prop := Claim7.holds Tryd.pinned (.plain (OpenSpec.upto plogHarmsSpec)) plogHarmsUptoCard

/-- THE SECOND FORM's CARD OF 'orchardlaw06.PlogBlocks'. -/
def plogBlocksUptoCard : Claim7 := { stood := { row := plogBlocksUptoRow, standIns := [], harness := (true, "115e06a90b906b4a28273874f9d01452fec56e1f600953276d435aef20e40e0d"), looks := false }, kinds := [], alts := [], laidByText := true, laidKinds := [.data, .data], laidTests := true, laidLooks := .later }
def PlogBlocksUptoCardSaid : Prop := Claim7.holds Tryd.pinned (.plain (OpenSpec.upto plogBlocksSpec)) plogBlocksUptoCard

/-- THE SECOND FORM's CARD OF 'orchardlaw07.ChunkCuts'. -/
def chunkCutsUptoCard : Claim7 := { stood := { row := chunkCutsUptoRow, standIns := [], harness := (true, "115e06a90b906b4a28273874f9d01452fec56e1f600953276d435aef20e40e0d"), looks := false }, kinds := [], alts := [], laidByText := true, laidKinds := [.data, .data], laidTests := true, laidLooks := .later }
def ChunkCutsUptoCardSaid : Prop := Claim7.holds Tryd.pinned (.plain (OpenSpec.upto chunkCutsSpec)) chunkCutsUptoCard

/-- THE SECOND FORM's CARD OF 'orchardlaw07.ChunkPuts'. -/
def chunkPutsUptoCard : Claim7 := { stood := { row := chunkPutsUptoRow, standIns := [], harness := (true, "115e06a90b906b4a28273874f9d01452fec56e1f600953276d435aef20e40e0d"), looks := false }, kinds := [], alts := [], laidByText := true, laidKinds := [.data, .data], laidTests := true, laidLooks := .later }
def ChunkPutsUptoCardSaid : Prop := Claim7.holds Tryd.pinned (.plain (OpenSpec.upto chunkPutsSpec)) chunkPutsUptoCard

/-- THE SECOND FORM's CARD OF 'orchardlaw07.ChunkHarms'. -/
def chunkHarmsUptoCard : Claim7 := { stood := { row := chunkHarmsUptoRow, standIns := [], harness := (true, "115e06a90b906b4a28273874f9d01452fec56e1f600953276d435aef20e40e0d"), looks := false }, kinds := [], alts := [], laidByText := true, laidKinds := [.data, .data], laidTests := true, laidLooks := .later }
def ChunkHarmsUptoCardSaid : Prop := Claim7.holds Tryd.pinned (.plain (OpenSpec.upto chunkHarmsSpec)) chunkHarmsUptoCard

/-- THE SECOND FORM's CARD OF 'orchardlaw07.ChunkBlocks'. -/
def chunkBlocksUptoCard : Claim7 := { stood := { row := chunkBlocksUptoRow, standIns := [], harness := (true, "115e06a90b906b4a28273874f9d01452fec56e1f600953276d435aef20e40e0d"), looks := false }, kinds := [], alts := [], laidByText := true, laidKinds := [.data, .data], laidTests := true, laidLooks := .later }
def ChunkBlocksUptoCardSaid : Prop := Claim7.holds Tryd.pinned (.plain (OpenSpec.upto chunkBlocksSpec)) chunkBlocksUptoCard

/-- THE SECOND FORM's CARD OF 'orchardlaw07.ChunkAreas'. -/
def chunkAreasUptoCard : Claim7 := { stood := { row := chunkAreasUptoRow, standIns := [], harness := (true, "115e06a90b906b4a28273874f9d01452fec56e1f600953276d435aef20e40e0d"), looks := false }, kinds := [], alts := [], laidByText := true, laidKinds := [.data, .data], laidTests := true, laidLooks := .later }
def ChunkAreasUptoCardSaid : Prop := Claim7.holds Tryd.pinned (.plain (OpenSpec.upto chunkAreasSpec)) chunkAreasUptoCard

/-- THE SECOND FORM's CARD OF 'orchardlaw07.ChunkMended'. -/
def chunkMendedUptoCard : Claim7 := { stood := { row := chunkMendedUptoRow, standIns := [], harness := (true, "115e06a90b906b4a28273874f9d01452fec56e1f600953276d435aef20e40e0d"), looks := false }, kinds := [], alts := [], laidByText := true, laidKinds := [.data, .data], laidTests := true, laidLooks := .later }
def ChunkMendedUptoCardSaid : Prop := Claim7.holds Tryd.pinned (.plain (OpenSpec.upto chunkMendedSpec)) chunkMendedUptoCard

/-- THE SECOND FORM's CARD OF 'orchardlaw07.ChunkOthers'. -/
def chunkOthersUptoCard : Claim7 := { stood := { row := chunkOthersUptoRow, standIns := [], harness := (true, "115e06a90b906b4a28273874f9d01452fec56e1f600953276d435aef20e40e0d"), looks := false }, kinds := [], alts := [], laidByText := true, laidKinds := [.data, .data], laidTests := true, laidLooks := .later }
def ChunkOthersUptoCardSaid : Prop := Claim7.holds Tryd.pinned (.plain (OpenSpec.upto chunkOthersSpec)) chunkOthersUptoCard
end Rows
end Go.Proofs.YtiknfifiglooeaaDoor
