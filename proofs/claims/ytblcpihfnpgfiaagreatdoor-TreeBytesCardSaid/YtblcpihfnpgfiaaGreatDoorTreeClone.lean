/- Clone of a tree. No conditions beyond those in each statement. -/
import Derived.Test.YtblcpihfnpgfiaaGreatDoorTreeArm
import Derived.Test.YtblcpihfnpgfiaaGreatDoorTreeNew
import Derived.Test.YtblcpihfnpgfiaaGreatDoorMcl
import Derived.Shelf.SlMaps.Clone
namespace Go.Proofs.YtblcpihfnpgfiaaGreatDoor
open Go.RowKit Go.Maps Go.Shelf
set_option linter.unusedVariables false
set_option linter.unusedSimpArgs false
set_option maxRecDepth 100000

theorem mclone_any (mb k c : Nat) (T : List UInt8 → Option Nd) (w : World) (h : MapN w mb k c T) :
    Calls Tryz.prog 44 #[.map (some mb)] w fun e w' => e = .returned (.map (some w.heap.size)) ∧ MapN w' w.heap.size k c T ∧ Below w.heap.size w w' := by
  obtain ⟨D, ho, hc, hD⟩ := h
  have C := AnyW.maps_Clone_owns Tryz.mclA 9 ndR mb k D w ho
  change Calls Tryz.prog 44 _ _ _ at C
  refine C.mono ?_
  rintro e w' ⟨rfl, h1, h2, hb⟩
  exact ⟨rfl, ⟨D, h1, hc, hD⟩, hb⟩
theorem tclone_any (tb mb k c : Nat) (T : List UInt8 → Option Nd) (w : World) (h : TrW w tb mb k c T) :
    Calls Tryz.prog 20 #[.pointer (some ⟨tb, 0, none⟩)] w fun e w' => ∃ tb2 mb2, e = .returned (.pointer (some ⟨tb2, 0, none⟩)) ∧ TrW w' tb2 mb2 k c T ∧ Below w.heap.size w w' ∧ w.heap.size ≤ tb2 ∧ w.heap.size ≤ mb2 := by
  have HC := Lib.hid (mclone_any mb k c T w h.map)
  have hcell := h.cell
  go_enter Tryz.func20, Tryz.ntmps20
  go_wp2_with fail
  refine HC.out.mono ?_
  rintro e w1 ⟨rfl, M1, b1⟩
  have bA := (Below.refl _ w1).alloc (Nat.le_refl _) (.cells #[.map (some w.heap.size)] 70)
  have N1 := heap_alloc_new w1 (.cells #[.map (some w.heap.size)] 70)
  go_wp2_with fail
  go_ret
  exact ⟨w1.heap.size, w.heap.size, rfl, ⟨N1, M1.below bA⟩, b1.trans (bA.mono b1.size), b1.size, Nat.le_refl _⟩
end Go.Proofs.YtblcpihfnpgfiaaGreatDoor
