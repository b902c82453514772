/- A slice of ints that came in. -/
import Derived.Test.YtigebaaldikeaaaDoorPlogLo
import Derived.Test.YtigebaaldikeaaaDoorDevArgs
namespace Go.Proofs.YtigebaaldikeaaaDoor
open Go.ChangeShapes Go.WideShapes Go.ChangeAt Go.RowKit
open Go.ChangeMaps (open_string shut_string)
set_option linter.unusedVariables false
set_option maxRecDepth 100000
theorem und_ints : Tryd.prog.underlying 152 = some (.slice 3) := by kernel_rfl
section
variable {H : Type} {enc : TypeId × Value → H} {W : World} {base b0 : Nat} {spare : Nat → Bool} {held : Bool} {v : Value} {d : DataW H} {p : List MemPlace}
theorem ints_of (hv : Value.okWide Tryd.prog W .any b0 152 v) (h : DataW.Trod enc Tryd.prog W base spare held 152 v d p) : ∃ zs, Fts W v zs := by
  obtain ⟨a, len, cap, rfl⟩ := okWide_slice und_ints hv
  obtain ⟨fuel, hf⟩ := h
  rcases open_ints und_ints und_i (by kernel_rfl) hf with ⟨hcs, _⟩ | ⟨x, l, c, zs, hcs, _, hl, hm, hz, _, hcell, hwz⟩
  · simp [Value.cells] at hcs
    obtain ⟨rfl, rfl, rfl⟩ := hcs
    exact ⟨[], Fts.nil W⟩
  · simp [Value.cells] at hcs
    obtain ⟨rfl, rfl, rfl⟩ := hcs
    have hlz : len ≤ zs.length := by rw [hz]; split <;> omega
    refine ⟨zs.take len, some x, cap, by rw [List.length_take, Nat.min_eq_left hlz], by rw [List.length_take]; omega, ?_⟩
    by_cases h0 : len = 0
    · exact .inl (by rw [List.length_take]; omega)
    · obtain ⟨b, off, spot⟩ := x
      have hc0 := hcell 0 (by omega)
      have hspot : spot = none := by simpa [Addr.add] using World.cell?_spot hc0
      subst hspot
      have hadd : ∀ j : Nat, (Addr.add ⟨b, off, none⟩ j : Addr) = ⟨b, off + j, none⟩ := fun j => by simp [Addr.add]
      refine .inr ⟨b, off, rfl, ?_, fun j hj => ?_⟩
      · rw [hadd] at hc0
        exact World.block_lt_of_cell? W _ hc0
      · have hj' : j < len := by rw [List.length_take] at hj; omega
        have := hcell j (by omega)
        rw [hadd] at this
        rw [this]
        simp [List.getD_eq_getElem?_getD, hj']
end
end Go.Proofs.YtigebaaldikeaaaDoor
