/- Plain facts: reading all parts of what was laid, of a piece of it, and of it with a byte more. No program. -/
import Derived.Test.YtefofhejaafgnaaParts
namespace Go.Proofs.Ytefofhejaafgnaa
set_option linter.unusedVariables false

def readAll (ps : List Pt) (st : RS) : RS := ps.foldl (fun st p => (readF (kindN p.k) st).2) st
theorem readAll_none (ps : List Pt) : readAll ps none = none := by
  induction ps with
  | nil => rfl
  | cons p ps ih => unfold readAll; rw [List.foldl_cons, readF_none]; exact ih
theorem readAll_cons (p : Pt) (ps : List Pt) (st : RS) : readAll (p :: ps) st = readAll ps (readF (kindN p.k) st).2 := rfl
theorem readAll_snoc (ps : List Pt) (k : Nat) (st : RS) (h : k < ps.length) : readAll (ps.take (k + 1)) st = (readF (kindN (ps.getD k pt0).k) (readAll (ps.take k) st)).2 := by
  rw [take_snoc_getD ps pt0 k h]; unfold readAll; rw [List.foldl_append]; rfl
theorem readAll_E (ps : List Pt) (l : List UInt8) (hs : ∀ p ∈ ps, p.s.data.toList.length ≤ 1000) : readAll ps (some (laysE ps ++ l)) = some l := by
  induction ps with
  | nil => rfl
  | cons p ps ih =>
    rw [readAll_cons, laysE, List.flatMap_cons, List.append_assoc, readF_E p _ (hs p (by simp))]
    exact ih (fun q hq => hs q (by simp [hq]))
theorem numF_short (k : Nat) (most : Int) (l : List UInt8) (h : l.length < k) : numF k most (some l) = (0, none) := by rw [numF_def, if_pos (.inl h)]
/-- A piece of one part. -/
theorem readF_cut (p : Pt) (l r : List UInt8) (hs : p.s.data.toList.length ≤ 1000) (h : l ++ r = layE p) (hr : r ≠ []) : (readF (kindN p.k) (some l)).2 = none := by
  have hlen := congrArg List.length h
  rw [List.length_append] at hlen
  have hr0 : 0 < r.length := List.length_pos_iff.2 hr
  unfold readF
  unfold layE at h hlen
  by_cases h0 : kindN p.k = 0
  · rw [if_pos h0] at h hlen ⊢
    rw [numE_length] at hlen
    rw [numF_short 6 _ l (by omega)]
  · rw [if_neg h0] at h hlen ⊢
    by_cases h1 : kindN p.k = 1
    · rw [if_pos h1] at h hlen ⊢
      rw [textE_short _ (by omega)] at h hlen
      generalize p.s.data.toList = m at *
      rw [List.length_append, be_length] at hlen
      unfold textF
      by_cases h2 : l.length < 2
      · rw [numF_short 2 _ l h2]
        rfl
      · have hl2 : l = be 2 m.length ++ l.drop 2 := by
          have h3 := congrArg (List.take 2) h
          rw [List.take_append_of_le_length (by omega), List.take_left' (be_length 2 m.length)] at h3
          rw [← h3, List.take_append_drop]
        rw [hl2, numF_be 2 m.length 1000 _ (by omega), if_pos (by omega)]
        show (takeF ((m.length : Int)).toNat (some (l.drop 2))).2 = none
        rw [takeF_def, if_pos (by rw [List.length_drop]; omega)]
    · rw [if_neg h1] at h hlen ⊢
      have : l = [] := List.eq_nil_of_length_eq_zero (by simp [flagE] at hlen; omega)
      rw [this]
      unfold flagF
      rw [numF_short 1 1 [] (by simp)]
/-- A piece of all parts. -/
theorem readAll_cut (ps : List Pt) (l r : List UInt8) (hs : ∀ p ∈ ps, p.s.data.toList.length ≤ 1000) (h : l ++ r = laysE ps) (hr : r ≠ []) : readAll ps (some l) = none := by
  induction ps generalizing l with
  | nil =>
    simp [laysE] at h
    exact absurd h.2 hr
  | cons p ps ih =>
    rw [laysE, List.flatMap_cons] at h
    rw [readAll_cons]
    have hlen := congrArg List.length h
    rw [List.length_append, List.length_append] at hlen
    by_cases hc : l.length < (layE p).length
    · have h1 : l ++ (layE p).drop l.length = layE p := by
        have h2 := congrArg (List.take l.length) h
        rw [List.take_left' rfl, List.take_append_of_le_length (by omega)] at h2
        rw (occs := .pos [1]) [h2]
        exact List.take_append_drop _ _
      rw [readF_cut p l _ (hs p (by simp)) h1 (by
        intro e
        have := congrArg List.length e
        rw [List.length_drop] at this
        simp at this
        omega), readAll_none]
    · have h1 : l = layE p ++ l.drop (layE p).length := by
        have h2 := congrArg (List.take (layE p).length) h
        rw [List.take_append_of_le_length (by omega), List.take_left' rfl] at h2
        rw (occs := .pos [1]) [← h2]
        exact (List.take_append_drop _ _).symm
      rw [h1, readF_E p _ (hs p (by simp))]
      refine ih (l.drop (layE p).length) (fun q hq => hs q (by simp [hq])) ?_
      rw [h1, List.append_assoc] at h
      exact List.append_cancel_left h
theorem layE_pos (p : Pt) : 0 < (layE p).length := by
  unfold layE
  split
  · rw [numE_length]; omega
  · split
    · unfold textE; rw [List.length_append, be_length]; omega
    · simp [flagE]
theorem laysE_pos (ps : List Pt) (h : 0 < ps.length) : 0 < (laysE ps).length := by
  match ps, h with
  | p :: ps, _ =>
    rw [laysE, List.flatMap_cons, List.length_append]
    have := layE_pos p
    omega
end Go.Proofs.Ytefofhejaafgnaa
