/- A slice of fates that a call has made for itself. -/
import Derived.Test.YtmfkbddfjfjfkaaDevHead
namespace Go.Proofs.Ytmfkbddfjfjfkaa
open Go.RowKit
set_option linter.unusedVariables false

theorem info_fate : (Try.prog.info? 45).map (fun i => (i.zero, i.size, i.bytes)) = some (some (.int .i64 0), 1, 8) := by kernel_rfl
theorem und_fates : Try.prog.underlying 37 = some (.slice 45) := by kernel_rfl
def fCells (zs : List Int) : List Value := zs.map (Value.int .i64)
/-- A slice of its own, from block n on, with the fates zs. -/
def FOwn (w : World) (n : Nat) (v : Value) (zs : List Int) : Prop := w.ownsRow n 45 1 v zs.length (fCells zs)
theorem FOwn.lt {w : World} {n : Nat} {v : Value} {zs : List Int} (h : FOwn w n v zs) : ∀ k, v.ownBlock = some k → n ≤ k ∧ k < w.heap.size := World.ownsRow.lt h
theorem FOwn.fts {w : World} {n : Nat} {v : Value} {zs : List Int} (h : FOwn w n v zs) (hm : zs.length ≤ maxLen) : Fts w v zs := by
  rcases id h.2 with ⟨rfl, h0⟩ | ⟨g, cap, cur, rfl, hb, hg, _⟩
  · exact ⟨none, 0, by rw [h0], hm, .inl h0⟩
  · refine ⟨_, cap, rfl, hm, .inr ⟨g, 0, rfl, lt_of_block hg, fun j hj => ?_⟩⟩
    have hu : (fCells zs)[j]? = some (.int .i64 (zs.getD j 0)) := by simp [fCells, List.getD_eq_getElem?_getD, hj]
    have := World.ownsRow.cells h rfl j _ hu
    have hadd : ∀ j, (⟨g, 0, none⟩ : Addr).add j = ⟨g, j, none⟩ := fun j => by unfold Addr.add; split <;> simp_all
    rw [hadd] at this
    rw [Nat.zero_add]
    exact this
theorem FOwn.new (w : World) (n : Nat) (hn : n ≤ w.heap.size) : FOwn (w.alloc (.cells #[] 45)) n (.slice (some ⟨w.heap.size, 0, none⟩) 0 0) [] := World.ownsRow_made w #[] 0 hn (Nat.zero_le _) rfl
theorem FOwn.snoc {w : World} {n : Nat} {v : Value} {zs : List Int} {z : Int} (h : w.ownsRow n 45 1 v (zs.length + 1) (fCells zs ++ [.int .i64 z])) : FOwn w n v (zs ++ [z]) := by
  unfold FOwn fCells at *
  rw [List.length_append, List.length_singleton, List.map_append]
  exact h
end Go.Proofs.Ytmfkbddfjfjfkaa
