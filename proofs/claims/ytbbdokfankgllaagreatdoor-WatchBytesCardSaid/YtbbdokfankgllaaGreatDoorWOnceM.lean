/- WatchOnce: one watch, without memory. No conditions beyond those in each statement. -/
import Derived.Test.YtbbdokfankgllaaGreatDoorWHead
namespace Go.Proofs.YtbbdokfankgllaaGreatDoor
open Go.RowKit Go.Maps Go.Shelf
set_option linter.unusedVariables false
set_option linter.unusedSimpArgs false
set_option maxRecDepth 100000

/-- The watches of a book with one watch that was told L. -/
def onceW (x : Wa) (L : List Ev) : List Wa := if (x.once && !L.isEmpty) = true then [] else [x]
/-- What it was told behind one more change. -/
def onceL (s up : ByteArray) (what when : Int) (x : Wa) (L : List Ev) : List Ev :=
  if (trigB s up what x && (!x.once || L.isEmpty)) = true then L ++ [⟨x.ses, (L.length : Int) + 1, x.path, trigK s up what x, when⟩] else L
section
variable {s up : ByteArray} {what when : Int} {x : Wa} {L : List Ev} {N : Int → Option Int}
theorem onceL_len : (onceL s up what when x L).length ≤ L.length + 1 := by
  unfold onceL
  split
  · simp
  · omega
theorem once_S (hN : (N x.ses).getD 0 = (L.length : Int)) (hL : L.length ≤ 1000) : (fireS s up what when (onceW x L) (L, N)).1 = onceL s up what when x L ∧ ((fireS s up what when (onceW x L) (L, N)).2 x.ses).getD 0 = ((onceL s up what when x L).length : Int) := by
  have hn : nextN N x.ses = (L.length : Int) + 1 := by
    unfold nextN
    rw [hN]
    exact IntWalk.i64_in _ (by omega)
  unfold onceW onceL
  cases h1 : x.once <;> cases h2 : L.isEmpty <;> cases h3 : trigB s up what x <;> simp [fireS, fireT, h1, h2, h3, hn, hN, updN]
theorem once_W : fireW s up what (onceW x L) = onceW x (onceL s up what when x L) := by
  unfold onceW onceL
  cases h1 : x.once <;> cases h2 : L.isEmpty <;> cases h3 : trigB s up what x <;> simp [fireW, h1, h2, h3]
end
end Go.Proofs.YtbbdokfankgllaaGreatDoor
