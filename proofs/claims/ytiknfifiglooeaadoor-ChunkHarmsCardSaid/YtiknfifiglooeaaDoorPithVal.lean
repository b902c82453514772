/- Plain facts on lists of bytes as big-endian numbers, and on byte strings. No program; no conditions beyond those in each statement. -/
import Derived.WalkKit
import Derived.Lib.Strings
namespace Go.Proofs.YtiknfifiglooeaaDoor
set_option linter.unusedVariables false

/-- A list of bytes as a number, the highest first. -/
def val (l : List UInt8) : Nat := l.foldl (fun a c => a * 256 + c.toNat) 0

theorem val_nil : val [] = 0 := rfl
theorem val_snoc (l : List UInt8) (c : UInt8) : val (l ++ [c]) = val l * 256 + c.toNat := by simp [val, List.foldl_append]
theorem val_from (l : List UInt8) : ∀ a : Nat, l.foldl (fun a c => a * 256 + c.toNat) a < (a + 1) * 256 ^ l.length := by
  induction l with
  | nil => intro a; simp
  | cons c l ih =>
    intro a
    refine Nat.lt_of_lt_of_le (ih (a * 256 + c.toNat)) ?_
    rw [List.length_cons, Nat.pow_succ, Nat.mul_comm (256 ^ l.length) 256, ← Nat.mul_assoc]
    exact Nat.mul_le_mul_right _ (by have := c.toNat_lt; omega)
theorem val_lt (l : List UInt8) : val l < 256 ^ l.length := by have := val_from l 0; simpa [val] using this

theorem take_snoc (s : ByteArray) (k : Nat) (h : k < s.size) : s.data.toList.take (k + 1) = s.data.toList.take k ++ [s[k]] := by
  rw [List.take_succ_eq_append_getElem (by simpa using h)]; rfl
theorem take_all (s : ByteArray) : s.data.toList.take s.size = s.data.toList := List.take_of_length_le (by simp)
theorem val_take_lt (s : ByteArray) (k n : Nat) (h : k ≤ n) : val (s.data.toList.take k) < 256 ^ n :=
  Nat.lt_of_lt_of_le (val_lt _) (Nat.pow_le_pow_right (by omega) (Nat.le_trans (List.length_take_le _ _) h))
end Go.Proofs.YtiknfifiglooeaaDoor
