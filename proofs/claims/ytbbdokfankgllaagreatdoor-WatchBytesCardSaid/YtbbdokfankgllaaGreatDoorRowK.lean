/- Rows of elements of k cells. No conditions beyond those in each statement. -/
import Derived.Test.YtbbdokfankgllaaGreatDoorWBase
import Derived.Laws.AppendOwn
namespace Go.Proofs.YtbbdokfankgllaaGreatDoor
open Go.RowKit
set_option linter.unusedVariables false

section
variable {α : Type} (one : α → List Value) (k : Nat)
def cellsK (l : List α) : List Value := l.flatMap one
variable {one k}
theorem cellsK_nil : cellsK one [] = [] := rfl
theorem cellsK_cons (x : α) (l : List α) : cellsK one (x :: l) = one x ++ cellsK one l := rfl
theorem cellsK_append (l m : List α) : cellsK one (l ++ m) = cellsK one l ++ cellsK one m := by unfold cellsK; rw [List.flatMap_append]
theorem cellsK_len (hk : ∀ x, (one x).length = k) (l : List α) : (cellsK one l).length = l.length * k := by
  induction l with
  | nil => simp [cellsK]
  | cons x l ih => rw [cellsK_cons, List.length_append, ih, hk, List.length_cons, Nat.succ_mul, Nat.add_comm]
theorem cellsK_at (hk : ∀ x, (one x).length = k) : ∀ (l : List α) (j i : Nat) (x : α), l[j]? = some x → i < k → (cellsK one l)[j * k + i]? = (one x)[i]?
  | [], j, i, x, h, _ => by simp at h
  | y :: l, 0, i, x, h, hi => by
    obtain rfl : y = x := by simpa using h
    rw [cellsK_cons, Nat.zero_mul, Nat.zero_add, List.getElem?_append_left (by rw [hk]; exact hi)]
  | y :: l, j + 1, i, x, h, hi => by
    have := cellsK_at hk l j i x (by simpa using h) hi
    rw [cellsK_cons, List.getElem?_append_right (by rw [hk, Nat.succ_mul]; omega), hk, Nat.succ_mul, ← this]
    congr 1; omega
theorem cellsK_one (h1 : ∀ x, ∀ v ∈ one x, v.oneCell' = true) (l : List α) (v : Value) (h : v ∈ cellsK one l) : v.oneCell' = true := by
  obtain ⟨x, _, hx⟩ := List.mem_flatMap.1 h
  exact h1 x v hx
theorem cellsK_take (hk : ∀ x, (one x).length = k) (l : List α) (n : Nat) : (cellsK one l).take (n * k) = cellsK one (l.take n) := by
  induction l generalizing n with
  | nil => simp [cellsK]
  | cons x l ih =>
    cases n with
    | zero => simp [cellsK]
    | succ n => rw [cellsK_cons, List.take_succ_cons, cellsK_cons, ← ih, List.take_append, hk, Nat.succ_mul, List.take_of_length_le (by rw [hk]; omega)]; congr 2; omega
theorem cellsK_drop (hk : ∀ x, (one x).length = k) (l : List α) (n : Nat) : (cellsK one l).drop (n * k) = cellsK one (l.drop n) := by
  induction l generalizing n with
  | nil => simp [cellsK]
  | cons x l ih =>
    cases n with
    | zero => simp
    | succ n => rw [cellsK_cons, List.drop_succ_cons, ← ih, List.drop_append, hk, Nat.succ_mul, List.drop_of_length_le (by rw [hk]; omega), List.nil_append]; congr 1; omega
theorem cellsK_set (hk : ∀ x, (one x).length = k) (l : List α) (i f : Nat) (x y : α) (u : Value) (h : l[i]? = some x) (hf : f < k) (hu : (one x).set f u = one y) : (cellsK one l).set (i * k + f) u = cellsK one (l.set i y) := by
  induction l generalizing i with
  | nil => simp at h
  | cons z l ih =>
    cases i with
    | zero =>
      obtain rfl : z = x := by simpa using h
      rw [cellsK_cons, Nat.zero_mul, Nat.zero_add, List.set_append_left _ _ (by rw [hk]; exact hf), hu]; rfl
    | succ i =>
      rw [cellsK_cons, List.set_append_right _ _ (by rw [hk, Nat.succ_mul]; omega), hk, List.set_cons_succ, cellsK_cons, ← ih i (by simpa using h)]
      congr 2; rw [Nat.succ_mul]; omega
end
end Go.Proofs.YtbbdokfankgllaaGreatDoor
