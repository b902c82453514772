/- A new book and a new model. No conditions beyond those in each statement. -/
import Derived.Test.YtbbdokfankgllaaGreatDoorWPair
namespace Go.Proofs.YtbbdokfankgllaaGreatDoor
open Go.RowKit Go.Maps Go.Shelf
set_option linter.unusedVariables false
set_option maxRecDepth 100000

/-- A new book, and a new model. -/
theorem pair_new {w : World} {base bb : Nat} (hb : BkW w base bb (.slice none 0 0) (.slice none 0 0) (.map none) [] [] 0 0 (fun _ => none)) :
    PairW (w.alloc (.cells #[.slice none 0 0, .slice none 0 0, .map none] 32)) base bb w.heap.size 0 (fun b => b = bb ∨ b = w.heap.size) [] [] (fun _ => none) [] [] (fun _ => none) := by
  have hb2 := (Below.refl w.heap.size w).alloc (Nat.le_refl _) (.cells #[.slice none 0 0, .slice none 0 0, .map none] 32)
  have hn := heap_alloc_new w (.cells #[.slice none 0 0, .slice none 0 0, .map none] 32)
  have hlt := hb.lt
  have hown : ∀ (q b : Nat), OwnM q (.slice none 0 0) (.slice none 0 0) (.map none) b ↔ b = q := fun q b => by
    unfold OwnM
    simp [Value.ownBlock]
  refine ⟨_, _, _, _, _, .slice none 0 0, .slice none 0 0, .map none, 0, 0, hb.below hb2, ⟨hn, World.ownsRow_nil _ _ _ _, World.ownsRow_nil _ _ _ _, .inl ⟨rfl, rfl, rfl⟩, hb.lo.2, Nat.le_trans hb.lo.2 hb2.size⟩, fun b h1 h2 => ?_, fun b => ?_, Nat.le_refl _, Nat.le_refl _⟩
  · rw [hown] at h1 h2; omega
  · rw [hown, hown]
end Go.Proofs.YtbbdokfankgllaaGreatDoor
