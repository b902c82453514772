/- Package head in plain words: a head, its copy, what a record tells of a head; no program. -/
import Derived.Test.YtpjbkeheemhlnaaDoorDevW
namespace Go.Proofs.YtpjbkeheemhlnaaDoor
set_option linter.unusedVariables false
set_option maxRecDepth 100000

/-- A head. -/
structure Hd where
  term : Int
  vote : Int
  first : Int
  base : Int
def headV (h : Hd) : Value := .agg #[.int .i64 h.term, .int .i64 h.vote, .int .i64 h.first, .int .i64 h.base]
def hd0 : Hd := ⟨0, 0, 0, 0⟩
def hd1 : Hd := ⟨0, 0, 1, 0⟩
theorem Hd.ext' {a b : Hd} (h1 : a.term = b.term) (h2 : a.vote = b.vote) (h3 : a.first = b.first) (h4 : a.base = b.base) : a = b := by
  cases a; cases b; simp_all
/-- Its numbers are Go's. -/
structure Hd.Fits (h : Hd) : Prop where
  term : -9223372036854775808 ≤ h.term ∧ h.term ≤ 9223372036854775807
  vote : -9223372036854775808 ≤ h.vote ∧ h.vote ≤ 9223372036854775807
  first : -9223372036854775808 ≤ h.first ∧ h.first ≤ 9223372036854775807
  base : -9223372036854775808 ≤ h.base ∧ h.base ≤ 9223372036854775807
/-- It may be put. -/
structure Hd.Ok (h : Hd) : Prop where
  term : 0 ≤ h.term ∧ h.term ≤ 281474976710655
  vote : 0 ≤ h.vote ∧ h.vote ≤ 7
  first : 1 ≤ h.first ∧ h.first ≤ 281474976710655
  base : 0 ≤ h.base ∧ h.base ≤ 281474976710655
/-- The copy of a head that is put for the i-th time. -/
def copyR (h : Hd) (i : Int) : Rc := ⟨1, i, h.term, ⟨(numsE [h.vote, h.first, h.base]).toArray⟩⟩
def pa (t : List UInt8) : Int × RS := numF 6 7 (some t)
def pb (t : List UInt8) : Int × RS := numF 6 281474976710655 (pa t).2
def pc (t : List UInt8) : Int × RS := numF 6 281474976710655 (pb t).2
/-- What headOf answers. -/
def headF (r : Rc) : Hd × Bool :=
  if r.kind = 1 then (if doneF (pc r.data.data.toList).2 = 0 then (⟨r.term, (pa r.data.data.toList).1, (pb r.data.data.toList).1, (pc r.data.data.toList).1⟩, true) else (hd0, false)) else (hd0, false)
theorem headF_zero : headF rc0 = (hd0, false) := by unfold headF; rw [if_neg (show ¬ rc0.kind = 1 by decide)]
theorem numF_E' {z m : Int} (h : 0 ≤ z ∧ z ≤ m) (hm : m ≤ 281474976710655) (l : List UInt8) : numF 6 m (some (numE z ++ l)) = (z, some l) := by
  rw [numE_be ⟨h.1, Int.le_trans h.2 hm⟩, numF_be 6 z.toNat m l (by omega), if_pos (by omega)]
  rw [show ((z.toNat : Nat) : Int) = z by omega]
theorem headF_copy {h : Hd} (ho : h.Ok) (i : Int) : headF (copyR h i) = (h, true) := by
  have hd : (copyR h i).data.data.toList = numE h.vote ++ (numE h.first ++ (numE h.base ++ [])) := by
    unfold copyR
    rw [data_mk]
    simp [numsE]
  have a : pa (copyR h i).data.data.toList = (h.vote, some (numE h.first ++ (numE h.base ++ []))) := by unfold pa; rw [hd, numF_E' ho.vote (by decide)]
  have b : pb (copyR h i).data.data.toList = (h.first, some (numE h.base ++ [])) := by unfold pb; rw [a]; exact numF_E' ⟨by have := ho.first.1; omega, ho.first.2⟩ (by decide) _
  have c : pc (copyR h i).data.data.toList = (h.base, some []) := by unfold pc; rw [b]; exact numF_E' ho.base (by decide) _
  unfold headF
  rw [if_pos (show (copyR h i).kind = 1 from rfl), a, b, c, if_pos (show doneF (some []) = 0 from rfl)]
  rfl
theorem copy_size (h : Hd) (i : Int) : (copyR h i).data.size = 18 := by
  unfold copyR
  rw [size_mk, numsE_length]
  rfl
theorem copy_ok {h : Hd} (ho : h.Ok) {i : Int} (hi : 0 ≤ i ∧ i ≤ 281474976710655) : (copyR h i).Ok := ⟨⟨(show (0 : Int) ≤ 1 ∧ (1 : Int) ≤ 281474976710655 by decide), hi, ho.term⟩, by rw [copy_size]; decide⟩
theorem copy_ne (h : Hd) (i : Int) : copyR h i ≠ rc0 := fun e => by
  have := congrArg Rc.kind e
  simp [copyR, rc0] at this
theorem copy_inj {h k : Hd} (ho : h.Ok) (ko : k.Ok) {i j : Int} (e : copyR h i = copyR k j) : h = k ∧ i = j := by
  have h1 := headF_copy ho i
  rw [e, headF_copy ko j] at h1
  exact ⟨(Prod.mk.inj h1).1.symm, congrArg Rc.index e⟩

open Classical in
/-- Which copy is kept: L till now, r read. -/
noncomputable def pick (L r : Rc) : Rc := if (headF r).2 = true ∧ (L = rc0 ∨ L.index < r.index) then r else L
theorem pick_not {L r : Rc} (h : (headF r).2 = false) : pick L r = L := by unfold pick; rw [if_neg (by rw [h]; simp)]
theorem pick_new {r : Rc} (h : (headF r).2 = true) : pick rc0 r = r := by unfold pick; rw [if_pos ⟨h, .inl rfl⟩]
theorem pick_more {L r : Rc} (h : (headF r).2 = true) (hl : L.index < r.index) : pick L r = r := by unfold pick; rw [if_pos ⟨h, .inr hl⟩]
theorem pick_less {L r : Rc} (h0 : L ≠ rc0) (hl : r.index ≤ L.index) : pick L r = L := by unfold pick; rw [if_neg]; rintro ⟨_, h | h⟩; exact h0 h; omega
open Classical in
/-- What Open answers: the record that the store keeps, and the error. -/
noncomputable def Dv.hopen (D : Dv) : Rc × Int :=
  if (D.sread 0).2.2 = 0 then
    if (D.sread 1).2.2 = 0 then
      if pick (pick rc0 (D.sread 0).1) (D.sread 1).1 = rc0 ∧ (D.sread 1).2.1 ≠ 0 then (rc0, 6) else (pick (pick rc0 (D.sread 0).1) (D.sread 1).1, 0)
    else (rc0, (D.sread 1).2.2)
  else (rc0, (D.sread 0).2.2)
open Classical in
/-- What Head answers. -/
noncomputable def headL (L : Rc) : Hd := if L = rc0 then hd1 else (headF L).1
theorem headL_zero : headL rc0 = hd1 := by unfold headL; rw [if_pos rfl]
theorem headL_copy {h : Hd} (ho : h.Ok) (i : Int) : headL (copyR h i) = h := by unfold headL; rw [if_neg (copy_ne h i), headF_copy ho]

/-- What the writing of one copy answers: the error, and the device. -/
noncomputable def Dv.one (D : Dv) (b : Int) (r : Rc) : Int × Dv := if (D.swrite b r).1 = 0 then (D.swrite b r).2.flush else D.swrite b r
/-- What put answers: the error, and the device. -/
noncomputable def Dv.two (D : Dv) (f : Int) (r : Rc) : Int × Dv := if (D.one f r).1 = 0 then (D.one f r).2.one (1 - f) r else D.one f r
open Classical in
/-- What the store keeps behind put. -/
noncomputable def lastL (e : Int) (r L : Rc) : Rc := if e = 0 then r else L
end Go.Proofs.YtpjbkeheemhlnaaDoor
