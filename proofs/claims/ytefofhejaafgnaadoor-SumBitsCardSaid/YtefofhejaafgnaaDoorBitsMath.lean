/- Plain facts: the register is affine in its bytes. No program. -/
import Derived.Test.YtefofhejaafgnaaDoorSumMath
namespace Go.Proofs.YtefofhejaafgnaaDoor
set_option linter.unusedVariables false

/-- The register behind so many bytes, by their numbers. -/
def uF (g : Nat → Nat) (r : Nat) : Nat → Nat
  | 0 => r
  | k + 1 => updN (uF g r k) (g k)
/-- The bytes of a text, by their places. -/
def byteF (s : ByteArray) (j : Nat) : Nat := (s.data.toList.getD j 0).toNat
theorem byteF_lt (s : ByteArray) (j : Nat) : byteF s j < 256 := UInt8.toNat_lt _
theorem byteF_at (s : ByteArray) (j : Nat) (h : j < s.size) : byteF s j = s[j].toNat := by
  unfold byteF
  rw [List.getD_eq_getElem?_getD, List.getElem?_eq_getElem (by rw [← Lib.size_eq]; exact h)]
  rfl
theorem uF_text (s : ByteArray) (r : Nat) : ∀ k, k ≤ s.size → updsN r (s.data.toList.take k) = uF (byteF s) r k := by
  intro k
  induction k with
  | zero => intro _; rfl
  | succ k ih =>
    intro hk
    rw [updsN_snoc r s k (by omega), ih (by omega), ← byteF_at s k (by omega)]
    rfl
/-- A row of bytes by their numbers. -/
def bytesF (f : Nat → Nat) (k : Nat) : List UInt8 := (List.range k).map fun j => UInt8.ofNat (f j)
theorem bytesF_length (f : Nat → Nat) (k : Nat) : (bytesF f k).length = k := by simp [bytesF]
theorem uF_row (f : Nat → Nat) (hf : ∀ j, f j < 256) (r : Nat) : ∀ k, updsN r (bytesF f k) = uF f r k := by
  intro k
  induction k with
  | zero => rfl
  | succ k ih =>
    unfold bytesF at *
    rw [List.range_succ, List.map_append, updsN_append, ih]
    show updN (uF f r k) (UInt8.ofNat (f k)).toNat = updN (uF f r k) (f k)
    rw [UInt8.toNat_ofNat', Nat.mod_eq_of_lt (hf k)]
theorem uF_lin (g h : Nat → Nat) (hg : ∀ j, g j < 256) (hh : ∀ j, h j < 256) (r q : Nat) : ∀ k, uF (fun j => g j ^^^ h j) (r ^^^ q) k = uF g r k ^^^ uF h q k := by
  intro k
  induction k with
  | zero => rfl
  | succ k ih =>
    show updN (uF (fun j => g j ^^^ h j) (r ^^^ q) k) (g k ^^^ h k) = updN (uF g r k) (g k) ^^^ updN (uF h q k) (h k)
    rw [ih, upd_lin _ _ _ _ (hg k) (hh k)]
theorem three_same (x a b c : Nat) : x ^^^ (a ^^^ b ^^^ c) = (x ^^^ a) ^^^ (x ^^^ b) ^^^ (x ^^^ c) := by
  rw [xor4 x a x b, Nat.xor_self, Nat.zero_xor, Nat.xor_comm (a ^^^ b), Nat.xor_comm (a ^^^ b), Nat.xor_assoc]
/-- Of three texts of one length, bit by bit together: the three sums' bits together. -/
theorem add_three (a b c : ByteArray) (n : Nat) (ha : n ≤ a.size) (hb : n ≤ b.size) (hc : n ≤ c.size) :
    addN 0 (bytesF (fun j => byteF a j ^^^ byteF b j ^^^ byteF c j) n) = addN 0 (a.data.toList.take n) ^^^ addN 0 (b.data.toList.take n) ^^^ addN 0 (c.data.toList.take n) := by
  unfold addN
  rw [uF_text a _ n ha, uF_text b _ n hb, uF_text c _ n hc, uF_row _ (fun j => xor_lt8 _ _ (xor_lt8 _ _ (byteF_lt a j) (byteF_lt b j)) (byteF_lt c j))]
  have h0 : notN 0 = notN 0 ^^^ notN 0 ^^^ notN 0 := by rw [Nat.xor_self, Nat.zero_xor]
  have e : uF (fun j => byteF a j ^^^ byteF b j ^^^ byteF c j) (notN 0) n = uF (byteF a) (notN 0) n ^^^ uF (byteF b) (notN 0) n ^^^ uF (byteF c) (notN 0) n := by
    have h1 := uF_lin (fun j => byteF a j ^^^ byteF b j) (byteF c) (fun j => xor_lt8 _ _ (byteF_lt a j) (byteF_lt b j)) (byteF_lt c) (notN 0 ^^^ notN 0) (notN 0) n
    rw [← h0, uF_lin (byteF a) (byteF b) (byteF_lt a) (byteF_lt b)] at h1
    exact h1
  rw [e]
  generalize uF (byteF a) (notN 0) n = x
  generalize uF (byteF b) (notN 0) n = y
  generalize uF (byteF c) (notN 0) n = z
  rw [not_def, not_def, not_def, not_def, three_same]
end Go.Proofs.YtefofhejaafgnaaDoor
