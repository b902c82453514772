/-
  DERIVED. GIVEN WITH THE SEED: THE CARDS: each row of YtkdbkbfloiponaaDoorRows.lean that lists a variable, with what it lists TIED to the program's text (the seventh form; the later family's looks); each row that meets fmt, with fmt's text TOLD by the authors' own Lean function (tested against real Go, not proved from fmt's source: count such statements apart). THE CARD IS WHAT COUNTS. Prove the row's statement (the work); the ties are given (YtkdbkbfloiponaaDoorTie.lean); close each card by the builder's one call (the guide's Derived/Test/ToyasCard.lean, 'card_holds'). Laid BY PROGRAM, IN A SANDBOX (cutbox-door.mjs). By AI agents, Wed Nov 11 2026. No macro, syntax, notation, axiom, sorry.
-/
import Derived.Test.YtkdbkbfloiponaaDoorRows
import GoSem.ClaimSeven
namespace Go.Proofs.YtkdbkbfloiponaaDoor
namespace Rows

/-- THE TIED CARD OF 'orchardlaw12.OpBytes'. -/
def opBytesCard : Claim7 := { stood := { row := opBytesRow, standIns := [], harness := (true, "62af7adb4d1e92d774ddf333dc73542bd897b5dedf2efa42fd8b37189422702c"), looks := false }, kinds := [], alts := [], laidByText := true, laidKinds := [.data, .pinned], laidTests := true, laidLooks := .later }
def OpBytesCardSaid : Prop := Claim7.holds Tryd.pinned (.plain (OpenSpec.ofChange opBytesSpec)) opBytesCard

/-- THE TIED CARD OF 'orchardlaw12.OpMade'. -/
def opMadeCard : Claim7 := { stood := { row := opMadeRow, standIns := [], harness := (true, "62af7adb4d1e92d774ddf333dc73542bd897b5dedf2efa42fd8b37189422702c"), looks := false }, kinds := [], alts := [], laidByText := true, laidKinds := [.data, .pinned], laidTests := true, laidLooks := .later }
def OpMadeCardSaid : Prop := Claim7.holds Tryd.pinned (.plain (OpenSpec.ofChange opMadeSpec)) opMadeCard

/-- THE SECOND FORM's CARD OF 'orchardlaw12.OpBytes'. -/
def opBytesUptoCard : Claim7 := { stood := { row := opBytesUptoRow, standIns := [], harness := (true, "62af7adb4d1e92d774ddf333dc73542bd897b5dedf2efa42fd8b37189422702c"), looks := false }, kinds := [], alts := [], laidByText := true, laidKinds := [.data, .pinned], laidTests := true, laidLooks := .later }
def OpBytesUptoCardSaid : Prop := Claim7.holds Tryd.pinned (.plain (OpenSpec.upto opBytesSpec)) opBytesUptoCard

/-- THE SECOND FORM's CARD OF 'orchardlaw12.OpMade'. -/
def opMadeUptoCard : Claim7 := { stood := { row := opMadeUptoRow, standIns := [], harness := (true, "62af7adb4d1e92d774ddf333dc73542bd897b5dedf2efa42fd8b37189422702c"), looks := false }, kinds := [], alts := [], laidByText := true, laidKinds := [.data, .pinned], laidTests := true, laidLooks := .later }
def OpMadeUptoCardSaid : Prop := Claim7.holds Tryd.pinned (.plain (OpenSpec.upto opMadeSpec)) opMadeUptoCard
end Rows
end Go.Proofs.YtkdbkbfloiponaaDoor
