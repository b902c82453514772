/- Plain facts: long division, bit by bit, leaves the register of the checksum. No program. -/
import Derived.Test.YtefofhejaafgnaaDoorSumMath
namespace Go.Proofs.YtefofhejaafgnaaDoor
set_option linter.unusedVariables false

def tapN (b : Nat) : Nat := if b = 1 then 2197175160 else 0
/-- One bit on. -/
def eN (x : Nat) : Nat := x / 2 ^^^ tapN (x % 2)
theorem tap_lin : ∀ a, a < 2 → ∀ b, b < 2 → tapN (a ^^^ b) = tapN a ^^^ tapN b := by decide
theorem tap_lt (b : Nat) : tapN b < 4294967296 := by unfold tapN; split <;> omega
theorem eN_lt (x : Nat) (h : x < 4294967296) : eN x < 4294967296 := xor_lt32 _ _ (by omega) (tap_lt _)
theorem eN_lin (x y : Nat) : eN (x ^^^ y) = eN x ^^^ eN y := by
  unfold eN
  rw [show (x ^^^ y) / 2 = x / 2 ^^^ y / 2 from xor_div x y 1, show (x ^^^ y) % 2 = x % 2 ^^^ y % 2 from xor_mod x y 1, tap_lin _ (by omega) _ (by omega), xor4]
theorem eN_double (y : Nat) : eN (2 * y) = y := by
  unfold eN
  rw [show 2 * y % 2 = 0 by omega, show 2 * y / 2 = y by omega, show tapN 0 = 0 from rfl, Nat.xor_zero]
theorem split_at (x k : Nat) : x = 2 ^ k * (x / 2 ^ k) ^^^ x % 2 ^ k := by
  apply Nat.eq_of_testBit_eq
  intro i
  rw [Nat.testBit_xor, Nat.testBit_two_pow_mul, Nat.testBit_mod_two_pow, Nat.testBit_div_two_pow]
  by_cases h : k ≤ i
  · rw [show i - k + k = i by omega]
    simp [h, show ¬ i < k by omega]
  · simp [h, show i < k by omega]
/-- So many bits on. -/
def eK : Nat → Nat → Nat
  | 0, x => x
  | k + 1, x => eN (eK k x)
theorem eK_lin (k x y : Nat) : eK k (x ^^^ y) = eK k x ^^^ eK k y := by
  induction k with
  | zero => rfl
  | succ k ih => show eN (eK k (x ^^^ y)) = eN (eK k x) ^^^ eN (eK k y); rw [ih, eN_lin]
theorem eK_pow (k y : Nat) : eK k (2 ^ k * y) = y := by
  induction k generalizing y with
  | zero => show 2 ^ 0 * y = y; omega
  | succ k ih =>
    show eN (eK k (2 ^ (k + 1) * y)) = y
    rw [Nat.pow_succ, Nat.mul_assoc, ih, eN_double]
theorem eK_tab : ∀ b, b < 256 → eK 8 b = tabN b := by decide +kernel
theorem eK_adv (x : Nat) : eK 8 x = advN x := by
  have h : eK 8 x = eK 8 (2 ^ 8 * (x / 2 ^ 8) ^^^ x % 2 ^ 8) := congrArg (eK 8) (split_at x 8)
  rw [h, eK_lin, eK_pow, eK_tab _ (Nat.mod_lt _ (by omega))]
  rfl
/-- A bit of a byte into the register, the others of it beside. -/
theorem eN_part (r c : Nat) : eN (r ^^^ c % 2) ^^^ c / 2 = eN (r ^^^ c) := by
  have h : r ^^^ c = (r ^^^ c % 2) ^^^ 2 * (c / 2) := by
    rw [Nat.xor_assoc, Nat.xor_comm (c % 2)]
    exact congrArg (fun z => r ^^^ z) (split_at c 1)
  rw [h, eN_lin (r ^^^ c % 2), eN_double]

/-- The register behind so many bits. -/
def regN (f : Nat → Nat) : Nat → Nat
  | 0 => 4294967295
  | i + 1 => eN (regN f i ^^^ f i)
theorem reg_lt (f : Nat → Nat) (hf : ∀ j, f j < 2) (i : Nat) : regN f i < 4294967296 := by
  induction i with
  | zero => show 4294967295 < 4294967296; omega
  | succ i ih => exact eN_lt _ (xor_lt32 _ _ ih (by have := hf i; omega))
theorem reg_byte (f : Nat → Nat) (i c : Nat) (hf : ∀ k, k < 8 → f (i + k) = c / 2 ^ k % 2) : ∀ k, k ≤ 8 → regN f (i + k) ^^^ c / 2 ^ k = eK k (regN f i ^^^ c) := by
  intro k
  induction k with
  | zero => intro _; show regN f i ^^^ c / 2 ^ 0 = regN f i ^^^ c; rw [Nat.pow_zero, Nat.div_one]
  | succ k ih =>
    intro hk
    show eN (regN f (i + k) ^^^ f (i + k)) ^^^ c / 2 ^ (k + 1) = eN (eK k (regN f i ^^^ c))
    rw [hf k (by omega), Nat.pow_succ, ← Nat.div_div_eq_div_mul, eN_part, ih (by omega)]

/-- The bits of the text, the lowest of each byte first; noughts behind. -/
def dat (l : List UInt8) (j : Nat) : Nat := (l.getD (j / 8) 0).toNat / 2 ^ (j % 8) % 2
theorem dat_lt (l : List UInt8) (j : Nat) : dat l j < 2 := Nat.mod_lt _ (by omega)
theorem dat_out (l : List UInt8) (j : Nat) (h : 8 * l.length ≤ j) : dat l j = 0 := by
  unfold dat
  rw [List.getD_eq_getElem?_getD, List.getElem?_eq_none (by omega)]
  show 0 / _ % 2 = 0
  rw [Nat.zero_div]
theorem reg_text (l : List UInt8) : ∀ m, m ≤ l.length → regN (dat l) (8 * m) = updsN 4294967295 (l.take m) := by
  intro m
  induction m with
  | zero => intro _; rfl
  | succ m ih =>
    intro hm
    have hb := reg_byte (dat l) (8 * m) (l.getD m 0).toNat (fun k hk => by
      unfold dat
      rw [show (8 * m + k) / 8 = m by omega, show (8 * m + k) % 8 = k by omega]) 8 (by omega)
    have hc : (l.getD m 0).toNat < 256 := UInt8.toNat_lt _
    rw [show (l.getD m 0).toNat / 2 ^ 8 = 0 by omega, Nat.xor_zero, eK_adv, ih (by omega), ← upd_adv _ _ hc] at hb
    rw [show 8 * (m + 1) = 8 * m + 8 by omega, hb]
    unfold updsN
    rw [List.take_add_one, List.foldl_append, List.getElem?_eq_getElem (by omega), List.getD_eq_getElem?_getD, List.getElem?_eq_getElem (by omega)]
    rfl

/-- What lies in the row behind so many turned bits. -/
def turnF (f : Nat → Nat) (i j : Nat) : Nat := if j < i then f j ^^^ 1 else f j
/-- What lies in the row behind so many rounds. -/
def divF (f : Nat → Nat) (i j : Nat) : Nat := if j < i then 0 else if j < i + 32 then f j ^^^ regN f i / 2 ^ (j - i) % 2 else f j
/-- The divisor's bits, the highest first. -/
def polN (k : Nat) : Nat := 4812730177 / 2 ^ (32 - k) % 2
/-- What lies in the row within a round. -/
def subF (f : Nat → Nat) (i k j : Nat) : Nat := if i ≤ j ∧ j < i + k then divF f i j ^^^ polN (j - i) else divF f i j
theorem xor_lt2 (a b : Nat) (ha : a < 2) (hb : b < 2) : a ^^^ b < 2 := Nat.xor_lt_two_pow (n := 1) ha hb
theorem turn_lt (f : Nat → Nat) (hf : ∀ j, f j < 2) (i j : Nat) : turnF f i j < 2 := by
  unfold turnF; split
  · exact xor_lt2 _ _ (hf j) (by omega)
  · exact hf j
theorem div_lt (f : Nat → Nat) (hf : ∀ j, f j < 2) (i j : Nat) : divF f i j < 2 := by
  unfold divF; split
  · omega
  · split
    · exact xor_lt2 _ _ (hf j) (Nat.mod_lt _ (by omega))
    · exact hf j
theorem sub_lt (f : Nat → Nat) (hf : ∀ j, f j < 2) (i k j : Nat) : subF f i k j < 2 := by
  unfold subF; split
  · exact xor_lt2 _ _ (div_lt f hf i j) (Nat.mod_lt _ (by omega))
  · exact div_lt f hf i j
theorem ones_bit : ∀ k, k < 32 → 4294967295 / 2 ^ k % 2 = 1 := by decide
theorem turn_div (f : Nat → Nat) (j : Nat) : turnF f 32 j = divF f 0 j := by
  unfold turnF divF
  rw [if_neg (by omega : ¬ j < 0), Nat.zero_add, Nat.sub_zero]
  by_cases h : j < 32
  · rw [if_pos h, if_pos h, show regN f 0 = 4294967295 from rfl, ones_bit j h]
  · rw [if_neg h, if_neg h]
theorem sub_zero (f : Nat → Nat) (i j : Nat) : subF f i 0 j = divF f i j := by
  unfold subF; rw [if_neg (by omega)]
theorem pol_bit : ∀ k, k < 32 → polN (k + 1) = 2197175160 / 2 ^ k % 2 := by decide
theorem div_here (f : Nat → Nat) (hf : ∀ j, f j < 2) (i : Nat) : divF f i i = (regN f i ^^^ f i) % 2 := by
  unfold divF
  rw [if_neg (by omega), if_pos (by omega), Nat.sub_self, Nat.pow_zero, Nat.div_one, show (regN f i ^^^ f i) % 2 = regN f i % 2 ^^^ f i % 2 from xor_mod _ _ 1, Nat.mod_eq_of_lt (hf i), Nat.xor_comm]
theorem reg_step (f : Nat → Nat) (hf : ∀ j, f j < 2) (i : Nat) : regN f (i + 1) = regN f i / 2 ^^^ tapN (divF f i i) := by
  show eN (regN f i ^^^ f i) = _
  unfold eN
  rw [div_here f hf i, show (regN f i ^^^ f i) / 2 = regN f i / 2 ^^^ f i / 2 from xor_div _ _ 1, show f i / 2 = 0 by have := hf i; omega, Nat.xor_zero]
/-- The register's bits, one place on. -/
theorem reg_bits (f : Nat → Nat) (hf : ∀ j, f j < 2) (i k : Nat) : regN f (i + 1) / 2 ^ k % 2 = (regN f i / 2 ^ (k + 1) % 2) ^^^ (tapN (divF f i i) / 2 ^ k % 2) := by
  rw [reg_step f hf i, xor_div, show (regN f i / 2 / 2 ^ k ^^^ tapN (divF f i i) / 2 ^ k) % 2 = regN f i / 2 / 2 ^ k % 2 ^^^ tapN (divF f i i) / 2 ^ k % 2 from xor_mod _ _ 1, Nat.div_div_eq_div_mul, Nat.pow_succ, Nat.mul_comm 2]
theorem div_same (f : Nat → Nat) (hf : ∀ j, f j < 2) (i j : Nat) (h : divF f i i ≠ 1) : divF f (i + 1) j = divF f i j := by
  have h0 : divF f i i = 0 := by have := div_lt f hf i i; omega
  by_cases hj : j = i
  · rw [hj, h0]; unfold divF; rw [if_pos (by omega)]
  · unfold divF
    by_cases h1 : j < i
    · rw [if_pos h1, if_pos (by omega)]
    · rw [if_neg h1, if_neg (by omega)]
      by_cases h2 : j < i + 32
      · rw [if_pos h2, if_pos (by omega), reg_bits f hf i, h0, show tapN 0 = 0 from rfl, Nat.zero_div, Nat.zero_mod, Nat.xor_zero, show j - (i + 1) + 1 = j - i by omega]
      · rw [if_neg h2]
        by_cases h3 : j < i + 1 + 32
        · rw [if_pos h3, reg_bits f hf i, h0, show tapN 0 = 0 from rfl, Nat.zero_div, Nat.zero_mod, Nat.xor_zero, show j - (i + 1) + 1 = 32 by omega]
          have := reg_lt f hf i
          rw [Nat.div_eq_of_lt this, Nat.zero_mod, Nat.xor_zero]
        · rw [if_neg h3]
theorem sub_all (f : Nat → Nat) (hf : ∀ j, f j < 2) (i j : Nat) (h : divF f i i = 1) : subF f i 33 j = divF f (i + 1) j := by
  unfold subF
  by_cases hj : j = i
  · rw [if_pos (by omega), hj, h, Nat.sub_self]
    unfold divF; rw [if_pos (by omega)]; rfl
  · by_cases h1 : j < i
    · rw [if_neg (by omega)]
      unfold divF
      rw [if_pos h1, if_pos (by omega)]
    · by_cases h3 : j < i + 33
      · rw [if_pos (by omega)]
        have e : divF f (i + 1) j = f j ^^^ regN f (i + 1) / 2 ^ (j - (i + 1)) % 2 := by unfold divF; rw [if_neg (by omega), if_pos (by omega)]
        rw [e, reg_bits f hf i, h, show tapN 1 = 2197175160 from rfl, ← pol_bit _ (by omega), show j - (i + 1) + 1 = j - i by omega, ← Nat.xor_assoc]
        refine congrArg (fun z => z ^^^ polN (j - i)) ?_
        unfold divF
        rw [if_neg h1]
        by_cases h2 : j < i + 32
        · rw [if_pos h2]
        · rw [if_neg h2, show j - i = 32 by omega]
          have := reg_lt f hf i
          rw [Nat.div_eq_of_lt this, Nat.zero_mod, Nat.xor_zero]
      · rw [if_neg (by omega)]
        unfold divF
        rw [if_neg h1, if_neg (by omega), if_neg (by omega), if_neg (by omega)]
theorem sub_here (f : Nat → Nat) (i k : Nat) : subF f i k (i + k) = divF f i (i + k) := by unfold subF; rw [if_neg (by omega)]
theorem sub_next (f : Nat → Nat) (i k j : Nat) : subF f i (k + 1) j = if j = i + k then subF f i k (i + k) ^^^ polN k else subF f i k j := by
  by_cases h : j = i + k
  · rw [if_pos h, sub_here, h]; unfold subF; rw [if_pos (by omega), Nat.add_sub_cancel_left]
  · rw [if_neg h]; unfold subF
    by_cases h2 : i ≤ j ∧ j < i + k
    · rw [if_pos h2, if_pos (by omega)]
    · rw [if_neg h2, if_neg (by omega)]
theorem turn_next (f : Nat → Nat) (i j : Nat) : turnF f (i + 1) j = if j = i then turnF f i i ^^^ 1 else turnF f i j := by
  by_cases h : j = i
  · rw [if_pos h, h]; unfold turnF; rw [if_pos (by omega), if_neg (by omega)]
  · rw [if_neg h]; unfold turnF
    by_cases h2 : j < i
    · rw [if_pos h2, if_pos (by omega)]
    · rw [if_neg h2, if_neg (by omega)]
/-- The bits of the answer. -/
theorem end_bit (l : List UInt8) (k : Nat) (hk : k < 32) : divF (dat l) (8 * l.length) (8 * l.length + k) ^^^ 1 = notN (regN (dat l) (8 * l.length)) / 2 ^ k % 2 := by
  rw [not_def, xor_div, show (4294967295 / 2 ^ k ^^^ regN (dat l) (8 * l.length) / 2 ^ k) % 2 = 4294967295 / 2 ^ k % 2 ^^^ regN (dat l) (8 * l.length) / 2 ^ k % 2 from xor_mod _ _ 1, ones_bit k hk]
  unfold divF
  rw [if_neg (by omega), if_pos (by omega), dat_out l _ (by omega), Nat.zero_xor, Nat.add_sub_cancel_left, Nat.xor_comm]
theorem or_bit (y k : Nat) : y % 2 ^ k ||| (y / 2 ^ k % 2) * 2 ^ k = y % 2 ^ (k + 1) := by
  apply Nat.eq_of_testBit_eq
  intro i
  rw [Nat.testBit_or, Nat.mul_comm, Nat.testBit_two_pow_mul, Nat.testBit_mod_two_pow, Nat.testBit_mod_two_pow]
  by_cases h : i < k
  · simp [h, show ¬ k ≤ i by omega, show i < k + 1 by omega]
  · by_cases h2 : i = k
    · subst h2
      have e : (y / 2 ^ i % 2).testBit 0 = y.testBit i := by
        rw [show (y / 2 ^ i % 2) = y / 2 ^ i % 2 ^ 1 from rfl, Nat.testBit_mod_two_pow, Nat.testBit_div_two_pow]
        simp
      rw [Nat.sub_self, e]
      simp
    · have e : (y / 2 ^ k % 2).testBit (i - k) = false := by
        rw [show (y / 2 ^ k % 2) = y / 2 ^ k % 2 ^ 1 from rfl, Nat.testBit_mod_two_pow]
        simp; omega
      rw [e]
      simp [h, show ¬ i < k + 1 by omega]
theorem long_end (l : List UInt8) : notN (regN (dat l) (8 * l.length)) = addN 0 l := by
  have h := reg_text l l.length (Nat.le_refl _)
  rw [List.take_length] at h
  rw [h]
  rfl
end Go.Proofs.YtefofhejaafgnaaDoor
