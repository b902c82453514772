/- The row of a tree's paths. No conditions beyond those in each statement. -/
import Derived.Test.YtblcpihfnpgfiaaGreatDoorTreePaths
namespace Go.Proofs.YtblcpihfnpgfiaaGreatDoor
open Go.RowKit Go.Maps Go.Sort
set_option linter.unusedVariables false
set_option linter.unusedSimpArgs false
set_option maxRecDepth 100000

def meZ : Me := ([], Nd.zero)
theorem row_formL {w : World} {base n : Nat} {e : TypeId} {size : Nat} {v : Value} {xs : List Value} (h : w.ownsRow base e size v n xs) : ∃ a c, v = .slice a n c ∧ (0 < n → ∃ g, a = some ⟨g, 0, none⟩) := by
  rcases h.2 with ⟨h1, h2⟩ | ⟨g, c, cur, h1, _⟩
  · exact ⟨none, 0, by rw [h1, h2], fun h => by omega⟩
  · exact ⟨_, _, h1, fun _ => ⟨g, rfl⟩⟩
theorem row_apart {w : World} {base base' n n' c c' s s' g g' : Nat} {e e' : TypeId} {xs xs' : List Value} (h : w.ownsRow base e s (.slice (some ⟨g, 0, none⟩) n c) n xs) (h' : w.ownsRow base' e' s' (.slice (some ⟨g', 0, none⟩) n' c') n' xs') (hn : e ≠ e') : g ≠ g' := by
  rintro rfl
  rcases h.2 with ⟨h1, _⟩ | ⟨g1, c1, cur, h1, _, h4, _⟩
  · cases h1
  · rcases h'.2 with ⟨h1', _⟩ | ⟨g2, c2, cur', h1', _, h4', _⟩
    · cases h1'
    · injection h1 with h1; injection h1 with h1; injection h1 with h1
      injection h1' with h1'; injection h1' with h1'; injection h1' with h1'
      subst h1 h1'
      rw [h4] at h4'
      injection h4' with h4'
      injection h4' with _ h5
      exact hn h5
/-- The row of the paths. -/
def PRow (w : World) (base : Nat) (a : Option Addr) (ca : Nat) (L : List Me) : Prop := w.ownsRow base 9 1 (.slice a L.length ca) L.length ((L.map (·.1)).map encStr)
theorem PRow.grown {w w' : World} {base ca g n : Nat} {L : List Me} (h : PRow w base (some ⟨g, 0, none⟩) ca L) (hne : g ≠ n) (hg : w.grownBy w' (some n)) : PRow w' base (some ⟨g, 0, none⟩) ca L :=
  World.ownsRow.kept h hg (.inr (by simp [Value.ownBlock]; omega))
theorem PRow.low {w w' : World} {base ca : Nat} {a : Option Addr} {L : List Me} (h : PRow w base a ca L) (hb : Below w.heap.size w w') : PRow w' base a ca L := by
  refine World.ownsRow.kept h (⟨hb.os, hb.tape, hb.output, hb.size, fun i hi _ => hb.block i hi⟩ : w.grownBy w' none) (by
    cases e : (Value.slice a L.length ca).ownBlock with
    | none => exact .inl rfl
    | some j => right; intro e2; cases e2)
theorem PRow.at {w : World} {base ca g : Nat} {L : List Me} (h : PRow w base (some ⟨g, 0, none⟩) ca L) {j : Nat} (hj : j < L.length) : w.cell? ⟨g, j, none⟩ = some (.string (bs (L.getD j meZ).1)) := by
  have h1 := World.ownsRow.cellAt h j (by omega)
  refine h1.trans ?_
  simp [List.getD_eq_getElem?_getD, hj, encStr, bs]
end Go.Proofs.YtblcpihfnpgfiaaGreatDoor
