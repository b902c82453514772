/- What Fire leaves, said without memory. No conditions beyond those in each statement. -/
import Derived.Test.YtbbdokfankgllaaDoorWFireT
namespace Go.Proofs.YtbbdokfankgllaaDoor
open Go.RowKit Go.Maps Go.Shelf
set_option linter.unusedVariables false
set_option maxRecDepth 100000

/-- The number of the next event of a session. -/
def nextN (N : Int → Option Int) (z : Int) : Int := IntKind.i64.wrap ((N z).getD 0 + 1)
/-- One watch's share of Fire. -/
def fireT (s up : ByteArray) (what when : Int) (st : List Ev × (Int → Option Int)) (x : Wa) : List Ev × (Int → Option Int) :=
  if trigB s up what x = true then (st.1 ++ [⟨x.ses, nextN st.2 x.ses, x.path, trigK s up what x, when⟩], updN st.2 x.ses (some (nextN st.2 x.ses))) else st
/-- The events and the last numbers behind Fire's loop. -/
def fireS (s up : ByteArray) (what when : Int) (Ws : List Wa) (st : List Ev × (Int → Option Int)) : List Ev × (Int → Option Int) := Ws.foldl (fireT s up what when) st
/-- The watches behind Fire. -/
def fireW (s up : ByteArray) (what : Int) (Ws : List Wa) : List Wa := Ws.filter fun x => !(trigB s up what x && x.once)
section
variable {s up : ByteArray} {what when : Int} {st : List Ev × (Int → Option Int)} {Ws : List Wa} {j : Nat} {x : Wa}
theorem fireS_zero : fireS s up what when (Ws.take 0) st = st := by simp [fireS]
theorem fireS_succ (h : Ws[j]? = some x) : fireS s up what when (Ws.take (j + 1)) st = fireT s up what when (fireS s up what when (Ws.take j) st) x := by
  unfold fireS
  rw [List.take_add_one, h]
  simp
theorem fireT_len : (fireT s up what when st x).1.length ≤ st.1.length + 1 := by
  unfold fireT
  split
  · simp
  · omega
theorem fireS_len (Ws : List Wa) (st : List Ev × (Int → Option Int)) : (fireS s up what when Ws st).1.length ≤ st.1.length + Ws.length := by
  induction Ws generalizing st with
  | nil => simp [fireS]
  | cons y l ih =>
    have h1 := ih (fireT s up what when st y)
    have h2 := fireT_len (s := s) (up := up) (what := what) (when := when) (st := st) (x := y)
    simp only [fireS, List.foldl_cons, List.length_cons] at h1 ⊢
    omega
theorem fireS_app (A B : List Wa) : fireS s up what when (A ++ B) st = fireS s up what when B (fireS s up what when A st) := List.foldl_append ..
theorem fireW_len : (fireW s up what Ws).length ≤ Ws.length := List.length_filter_le ..
/-- No watch of a session is concerned: its events and number stay. -/
theorem fireT_other {z : Int} (h : x.ses ≠ z) : ((fireT s up what when st x).1.filter fun e => e.ses == z) = (st.1.filter fun e => e.ses == z) ∧ (fireT s up what when st x).2 z = st.2 z := by
  unfold fireT
  split
  · refine ⟨?_, updN_other (Ne.symm h)⟩
    have : (x.ses == z) = false := by simpa using h
    simp [List.filter_append, this]
  · exact ⟨rfl, rfl⟩
end
end Go.Proofs.YtbbdokfankgllaaDoor
