/-
  DERIVED. GIVEN WITH THE SEED: THE CARDS: each row of YtbbdokfankgllaaDoorRows.lean that lists a variable, with what it lists TIED to the program's text (the seventh form; the later family's looks); each row that meets fmt, with fmt's text TOLD by the authors' own Lean function (tested against real Go, not proved from fmt's source: count such statements apart). THE CARD IS WHAT COUNTS. Prove the row's statement (the work); the ties are given (YtbbdokfankgllaaDoorTie.lean); close each card by the builder's one call (the guide's Derived/Test/ToyasCard.lean, 'card_holds'). Laid BY PROGRAM, IN A SANDBOX (cutbox-door.mjs). By AI agents, Wed Nov 11 2026. No macro, syntax, notation, axiom, sorry.
-/
import Derived.Test.YtbbdokfankgllaaDoorRows
import GoSem.ClaimSeven
namespace Go.Proofs.YtbbdokfankgllaaDoor
namespace Rows

/-- THE TIED CARD OF 'orchardlaw11.WatchActs'. -/
def watchActsCard : Claim7 := { stood := { row := watchActsRow, standIns := [], harness := (true, "d677477da7818a5962bcc5b863f15e07dc4fe9a6b539f30f2c1c1b38c0f7f376"), looks := true }, kinds := [], alts := [], laidByText := true, laidKinds := [.data, .pinned], laidTests := true, laidLooks := .later }
def WatchActsCardSaid : Prop := Claim7.holds Tryd.pinned (.plain (OpenSpec.ofChange watchActsSpec)) watchActsCard

/-- THE TIED CARD OF 'orchardlaw11.WatchApart'. -/
def watchApartCard : Claim7 := { stood := { row := watchApartRow, standIns := [], harness := (true, "d677477da7818a5962bcc5b863f15e07dc4fe9a6b539f30f2c1c1b38c0f7f376"), looks := true }, kinds := [], alts := [], laidByText := true, laidKinds := [.data, .pinned], laidTests := true, laidLooks := .later }
def WatchApartCardSaid : Prop := Claim7.holds Tryd.pinned (.plain (OpenSpec.ofChange watchApartSpec)) watchApartCard

/-- THE TIED CARD OF 'orchardlaw11.WatchNumbers'. -/
def watchNumbersCard : Claim7 := { stood := { row := watchNumbersRow, standIns := [], harness := (true, "d677477da7818a5962bcc5b863f15e07dc4fe9a6b539f30f2c1c1b38c0f7f376"), looks := true }, kinds := [], alts := [], laidByText := true, laidKinds := [.data, .pinned], laidTests := true, laidLooks := .later }
def WatchNumbersCardSaid : Prop := Claim7.holds Tryd.pinned (.plain (OpenSpec.ofChange watchNumbersSpec)) watchNumbersCard

/-- THE SECOND FORM's CARD OF 'orchardlaw11.WatchActs'. -/
def watchActsUptoCard : Claim7 := { stood := { row := watchActsUptoRow, standIns := [], harness := (true, "d677477da7818a5962bcc5b863f15e07dc4fe9a6b539f30f2c1c1b38c0f7f376"), looks := true }, kinds := [], alts := [], laidByText := true, laidKinds := [.data, .pinned], laidTests := true, laidLooks := .later }
def WatchActsUptoCardSaid : Prop := Claim7.holds Tryd.pinned (.plain (OpenSpec.upto watchActsSpec)) watchActsUptoCard

/-- THE SECOND FORM's CARD OF 'orchardlaw11.WatchApart'. -/
def watchApartUptoCard : Claim7 := { stood := { row := watchApartUptoRow, standIns := [], harness := (true, "d677477da7818a5962bcc5b863f15e07dc4fe9a6b539f30f2c1c1b38c0f7f376"), looks := true }, kinds := [], alts := [], laidByText := true, laidKinds := [.data, .pinned], laidTests := true, laidLooks := .later }
def WatchApartUptoCardSaid : Prop := Claim7.holds Tryd.pinned (.plain (OpenSpec.upto watchApartSpec)) watchApartUptoCard

/-- THE SECOND FORM's CARD OF 'orchardlaw11.WatchNumbers'. -/
def watchNumbersUptoCard : Claim7 := { stood := { row := watchNumbersUptoRow, standIns := [], harness := (true, "d677477da7818a5962bcc5b863f15e07dc4fe9a6b539f30f2c1c1b38c0f7f376"), looks := true }, kinds := [], alts := [], laidByText := true, laidKinds := [.data, .pinned], laidTests := true, laidLooks := .later }
def WatchNumbersUptoCardSaid : Prop := Claim7.holds Tryd.pinned (.plain (OpenSpec.upto watchNumbersSpec)) watchNumbersUptoCard
end Rows
end Go.Proofs.YtbbdokfankgllaaDoor
