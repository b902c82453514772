/- strings.Clone, and the reader's exported methods Num, Text and Flag. -/
import Derived.Test.YtiknfifiglooeaaDoorPithNr
import Derived.Lib.Walk
import Derived.Lib.BufferWrite
import Derived.Lib.UnsafeStr
namespace Go.Proofs.YtiknfifiglooeaaDoor
open Go.RowKit
set_option linter.unusedVariables false
set_option maxRecDepth 100000

theorem RdB.below {w w' : World} {b : Nat} {rest : ByteArray} {f : Bool} (h : RdB w b rest f) (k : Below w.heap.size w w') : RdB w' b rest f := (k.block b h.lt).trans h

/-- What a reader stands at: no error and what is left, or an error. -/
abbrev RS := Option (List UInt8)
/-- The reader at block b stands at st. -/
def Rs (w : World) (b : Nat) : RS → Prop
  | none => RdB w b ⟨#[]⟩ true
  | some l => RdB w b ⟨l.toArray⟩ false ∧ l.length ≤ 140737488355328
def okF : RS → Bool
  | none => false
  | some _ => true
def doneF : RS → Int
  | some [] => 0
  | _ => 2
/-- A number of n bytes, at most 'most'. -/
def numF (n : Nat) (most : Int) : RS → Int × RS
  | none => (0, none)
  | some l => if l.length < n ∨ most < (val (l.take n) : Int) then (0, none) else ((val (l.take n) : Int), some (l.drop n))
def takeF (n : Nat) : RS → List UInt8 × RS
  | none => ([], none)
  | some l => if l.length < n then ([], none) else (l.take n, some (l.drop n))
def textF (most : Int) (st : RS) : List UInt8 × RS := takeF (numF 2 most st).1.toNat (numF 2 most st).2
theorem Rs.below {w w' : World} {b : Nat} {st : RS} (h : Rs w b st) (k : Below w.heap.size w w') : Rs w' b st := by
  cases st with
  | none => exact RdB.below h k
  | some l => exact ⟨RdB.below h.1 k, h.2⟩
theorem Rs.lt {w : World} {b : Nat} {st : RS} (h : Rs w b st) : b < w.heap.size := by
  cases st with
  | none => exact RdB.lt h
  | some l => exact RdB.lt h.1
theorem Rs.kept {w w' : World} {b : Nat} {st : RS} {row : Option Nat} (h : Rs w b st) (k : w.grownBy w' row) (hr : some b ≠ row) : Rs w' b st := by
  cases st with
  | none => exact (k.block b h.lt hr).trans h
  | some l => exact ⟨(k.block b h.lt hr).trans h.1, h.2⟩
theorem numF_lt (n : Nat) (most : Int) (st : RS) : 0 ≤ (numF n most st).1 ∧ (numF n most st).1 < 256 ^ n := by
  cases st with
  | none => exact ⟨Int.le_refl 0, Int.pow_pos (by omega)⟩
  | some l =>
    by_cases hc : l.length < n ∨ most < (val (l.take n) : Int)
    · simp only [numF, hc, if_true]
      exact ⟨Int.le_refl 0, Int.pow_pos (by omega)⟩
    · simp only [numF, hc, if_false]
      have h := val_lt (l.take n)
      have h2 : 256 ^ (l.take n).length ≤ 256 ^ n := Nat.pow_le_pow_right (by omega) (List.length_take_le _ _)
      have h3 : ((256 ^ n : Nat) : Int) = 256 ^ n := by simp
      refine ⟨by simp, ?_⟩
      rw [← h3]
      exact_mod_cast Nat.lt_of_lt_of_le h h2
theorem takeF_len (n : Nat) (st : RS) : (takeF n st).1.length ≤ n := by
  cases st with
  | none => simp [takeF]
  | some l =>
    by_cases hl : l.length < n
    · simp [takeF, hl]
    · simp only [takeF, hl, if_false]
      exact List.length_take_le _ _

theorem ok_rs (b : Nat) (st : RS) (w : World) (h : Rs w b st) :
    Calls Tryd.prog 122 #[.pointer (some ⟨b, 0, none⟩)] w fun e w' => e = .returned (.bool (okF st)) ∧ w = w' := by
  cases st with
  | none => exact ok_any b _ true w h
  | some l => exact ok_any b _ false w h.1

theorem done_rs (b : Nat) (st : RS) (w : World) (h : Rs w b st) :
    Calls Tryd.prog 108 #[.pointer (some ⟨b, 0, none⟩)] w fun e w' => e = .returned (.int .i64 (doneF st)) ∧ w = w' := by
  cases st with
  | none => exact done_any b _ true w h
  | some l =>
    have := done_any b _ false w h.1
    rw [size_mk] at this
    cases l with
    | nil => exact this
    | cons c l => exact this

theorem fail_rs (b : Nat) (st : RS) (w : World) (h : Rs w b st) :
    Calls Tryd.prog 127 #[.pointer (some ⟨b, 0, none⟩)] w fun e w' => e = .returned (.tuple #[]) ∧ Rs w' b none ∧ w.grownBy w' (some b) := by
  cases st with
  | none => exact fail_any b _ true w h
  | some l => exact fail_any b _ false w h.1

theorem take_rs (b n : Nat) (st : RS) (w : World) (h : Rs w b st) :
    Calls Tryd.prog 121 #[.pointer (some ⟨b, 0, none⟩), .int .i64 n] w fun e w' => e = .returned (.string ⟨(takeF n st).1.toArray⟩) ∧ Rs w' b (takeF n st).2 ∧ w.grownBy w' (some b) := by
  cases st with
  | none => exact take_bad b _ true n w h (.inl rfl) (by show 0 ≤ maxLen; unfold maxLen; omega)
  | some l =>
    obtain ⟨h1, h2⟩ := h
    have hm : (ByteArray.mk l.toArray).size ≤ maxLen := by rw [size_mk]; unfold maxLen; omega
    by_cases hl : l.length < n
    · refine (take_bad b _ false n w h1 (.inr (by rw [size_mk]; omega)) hm).mono ?_
      intro e w' hh
      simpa [takeF, hl, Rs] using hh
    · refine (take_ok b _ n w h1 (by rw [size_mk]; omega) hm).mono ?_
      rw [extract_head, extract_rest]
      intro e w' ⟨he, hr, hg⟩
      simp only [takeF, hl, if_false]
      exact ⟨he, ⟨hr, by simp; omega⟩, hg⟩

theorem number_rs (b n : Nat) (most : Int) (st : RS) (w : World) (h : Rs w b st) (h6 : n ≤ 6) :
    Calls Tryd.prog 120 #[.pointer (some ⟨b, 0, none⟩), .int .i64 n, .int .i64 most] w fun e w' => e = .returned (.int .i64 (numF n most st).1) ∧ Rs w' b (numF n most st).2 ∧ w.grownBy w' (some b) := by
  cases st with
  | none => exact number_bad b _ true n most w h (.inl rfl) (by show 0 ≤ maxLen; unfold maxLen; omega)
  | some l =>
    obtain ⟨h1, h2⟩ := h
    have hm : (ByteArray.mk l.toArray).size ≤ maxLen := by rw [size_mk]; unfold maxLen; omega
    by_cases hl : l.length < n
    · refine (number_bad b _ false n most w h1 (.inr (by rw [size_mk]; omega)) hm).mono ?_
      intro e w' hh
      simpa [numF, hl, Rs] using hh
    · by_cases hv : most < (val (l.take n) : Int)
      · refine (number_above b _ n most w h1 (by rw [size_mk]; omega) h6 hm (by rw [data_mk]; exact hv)).mono ?_
        intro e w' hh
        simpa [numF, hv, Rs] using hh
      · refine (number_ok b _ n most w h1 (by rw [size_mk]; omega) h6 hm (by rw [data_mk]; omega)).mono ?_
        rw [data_mk, extract_rest]
        intro e w' ⟨he, hr, hg⟩
        have hn : ¬ (l.length < n ∨ most < (val (l.take n) : Int)) := by omega
        simp only [numF, hn, if_false]
        exact ⟨he, ⟨hr, by simp; omega⟩, hg⟩

set_option maxHeartbeats 400000 in
theorem num_rs (b : Nat) (most : Int) (st : RS) (w : World) (h : Rs w b st) :
    Calls Tryd.prog 106 #[.pointer (some ⟨b, 0, none⟩), .int .i64 most] w fun e w' => e = .returned (.int .i64 (numF 6 (max most 0) st).1) ∧ Rs w' b (numF 6 (max most 0) st).2 ∧ w.grownBy w' (some b) := by
  have H := Lib.hid (number_rs b 6 (max most 0) st w h (by omega))
  go_enter Tryd.func106, Tryd.ntmps106
  go_wp2_with fail
  refine H.out.mono ?_
  rintro e w' ⟨rfl, hr, hg⟩
  go_wp2
  go_ret
  exact ⟨rfl, hr, hg⟩

set_option maxHeartbeats 400000 in
theorem text_rs (b : Nat) (most : Int) (st : RS) (w : World) (h : Rs w b st) :
    Calls Tryd.prog 107 #[.pointer (some ⟨b, 0, none⟩), .int .i64 most] w fun e w' => e = .returned (.string ⟨(textF most st).1.toArray⟩) ∧ Rs w' b (textF most st).2 ∧ w.grownBy w' (some b) := by
  have H := Lib.hid (number_rs b 2 most st w h (by omega))
  have hb := numF_lt 2 most st
  obtain ⟨n, hn⟩ := Int.eq_ofNat_of_zero_le hb.1
  have ht : textF most st = takeF n (numF 2 most st).2 := by unfold textF; rw [hn]; rfl
  rw [ht]
  have hs : (ByteArray.mk (takeF n (numF 2 most st).2).1.toArray).size ≤ 65536 := by
    rw [size_mk]
    have := takeF_len n (numF 2 most st).2
    omega
  rw [hn] at H
  clear ht hb hn
  generalize (numF 2 most st).2 = st2 at *
  have HT := fun (W : World) (hW : Rs W b st2) => take_rs b n st2 W hW
  generalize takeF n st2 = r at *
  generalize ByteArray.mk r.1.toArray = s at *
  have HH := Lib.hid HT
  clear HT
  go_enter Tryd.func107, Tryd.ntmps107
  go_wp2_with fail
  refine H.out.mono ?_
  rintro e w' ⟨rfl, hr, hg⟩
  go_wp2_with fail
  refine (HH.out _ hr).mono ?_
  rintro e w'' ⟨rfl, hr2, hg2⟩
  go_wp2_with fail
  refine (clone_any s _ (by omega)).mono ?_
  rintro e w3 ⟨rfl, hb3⟩
  go_wp2
  go_ret
  exact ⟨rfl, hr2.below hb3, only_trans (only_trans hg hg2) (only_of_below hb3 _)⟩
end Go.Proofs.YtiknfifiglooeaaDoor
