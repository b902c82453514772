/- Plain facts on big-endian bytes: what is read is what was laid, and their order is the numbers' order. No program. -/
import Derived.Test.YtbdbmoinoehneaaDoorPithTxt
namespace Go.Proofs.YtbdbmoinoehneaaDoor
set_option linter.unusedVariables false

theorem be_succ (k n : Nat) : be (k + 1) n = UInt8.ofNat (n / 256 ^ k) :: be k n := by
  unfold be
  rw [List.range_succ_eq_map, List.map_cons, List.map_map]
  congr 1
  apply List.map_congr_left
  intro i hi
  show UInt8.ofNat (n / 256 ^ (k + 1 - 1 - (i + 1))) = UInt8.ofNat (n / 256 ^ (k - 1 - i))
  rw [show k + 1 - 1 - (i + 1) = k - 1 - i by omega]
theorem be_zero (n : Nat) : be 0 n = [] := rfl
theorem ofNat_mod (a b : Nat) (h : a % 256 = b % 256) : UInt8.ofNat a = UInt8.ofNat b := by
  apply UInt8.toNat_inj.1
  rw [UInt8.toNat_ofNat', UInt8.toNat_ofNat']
  exact h
theorem be_add (k m n : Nat) : be k (m * 256 ^ k + n) = be k n := by
  induction k generalizing m with
  | zero => rfl
  | succ k ih =>
    rw [be_succ, be_succ]
    have e : m * 256 ^ (k + 1) + n = (m * 256) * 256 ^ k + n := by rw [Nat.pow_succ, Nat.mul_assoc, Nat.mul_comm 256]
    rw [e, ih (m * 256)]
    congr 1
    apply ofNat_mod
    have hp : 0 < 256 ^ k := Nat.pow_pos (by omega)
    rw [Nat.add_comm, Nat.add_mul_div_right _ _ hp]
    omega
theorem val_cons (c : UInt8) (l : List UInt8) : val (c :: l) = c.toNat * 256 ^ l.length + val l := by
  have h : ∀ (l : List UInt8) (a : Nat), l.foldl (fun a c => a * 256 + c.toNat) a = a * 256 ^ l.length + val l := by
    intro l
    induction l with
    | nil => intro a; simp [val]
    | cons d l ih =>
      intro a
      unfold val
      rw [List.foldl_cons, List.foldl_cons, ih (a * 256 + d.toNat), ih (0 * 256 + d.toNat), List.length_cons, Nat.pow_succ]
      rw [Nat.add_mul, Nat.zero_mul, Nat.mul_comm (256 ^ l.length) 256, ← Nat.mul_assoc, Nat.zero_add, Nat.add_assoc]
  show (c :: l).foldl (fun a c => a * 256 + c.toNat) 0 = _
  rw [List.foldl_cons, h]
  simp
theorem val_be (k n : Nat) : val (be k n) = n % 256 ^ k := by
  induction k with
  | zero => rw [be_zero, Nat.pow_zero, Nat.mod_one]; rfl
  | succ k ih =>
    rw [be_succ, val_cons, be_length, ih, UInt8.toNat_ofNat']
    have hp : 0 < 256 ^ k := Nat.pow_pos (by omega)
    have hm : n % (256 ^ k * 256) = n % 256 ^ k + 256 ^ k * (n / 256 ^ k % 256) := Nat.mod_mul
    show n / 256 ^ k % 256 * 256 ^ k + n % 256 ^ k = n % 256 ^ (k + 1)
    rw [Nat.pow_succ, hm, Nat.mul_comm (256 ^ k), Nat.add_comm]
theorem val_be_lt (k n : Nat) (h : n < 256 ^ k) : val (be k n) = n := by rw [val_be, Nat.mod_eq_of_lt h]
theorem be_val (l : List UInt8) : be l.length (val l) = l := by
  induction l with
  | nil => rfl
  | cons c l ih =>
    rw [List.length_cons, be_succ, val_cons, be_add, ih]
    congr 1
    have hv := val_lt l
    have hp : 0 < 256 ^ l.length := Nat.pow_pos (by omega)
    rw [Nat.mul_comm, Nat.mul_add_div hp, Nat.div_eq_of_lt hv, Nat.add_zero]
    simp
theorem be_less (k c d : Nat) (hc : c < 256 ^ k) (hd : d < 256 ^ k) : Op.bytesLess (be k c) (be k d) = decide (c < d) := by
  induction k generalizing c d with
  | zero =>
    have : c = 0 := by simp at hc; omega
    have : d = 0 := by simp at hd; omega
    subst_vars
    simp [be_zero, Op.bytesLess]
  | succ k ih =>
    have hp : 0 < 256 ^ k := Nat.pow_pos (by omega)
    have e1 := Nat.div_add_mod c (256 ^ k)
    have e2 := Nat.div_add_mod d (256 ^ k)
    have b1 : be k c = be k (c % 256 ^ k) := by
      have := be_add k (c / 256 ^ k) (c % 256 ^ k)
      rwa [Nat.mul_comm, e1] at this
    have b2 : be k d = be k (d % 256 ^ k) := by
      have := be_add k (d / 256 ^ k) (d % 256 ^ k)
      rwa [Nat.mul_comm, e2] at this
    have q1 : c / 256 ^ k < 256 := Nat.div_lt_of_lt_mul (by rw [Nat.pow_succ] at hc; exact hc)
    have q2 : d / 256 ^ k < 256 := Nat.div_lt_of_lt_mul (by rw [Nat.pow_succ] at hd; exact hd)
    rw [be_succ, be_succ, b1, b2, Op.bytesLess, ih _ _ (Nat.mod_lt _ hp) (Nat.mod_lt _ hp)]
    have r1 := Nat.mod_lt c hp
    have r2 := Nat.mod_lt d hp
    have l1 : (UInt8.ofNat (c / 256 ^ k) < UInt8.ofNat (d / 256 ^ k)) ↔ c / 256 ^ k < d / 256 ^ k := by
      rw [UInt8.lt_iff_toNat_lt, UInt8.toNat_ofNat', UInt8.toNat_ofNat', Nat.mod_eq_of_lt q1, Nat.mod_eq_of_lt q2]
    have l2 : (UInt8.ofNat (c / 256 ^ k) = UInt8.ofNat (d / 256 ^ k)) ↔ c / 256 ^ k = d / 256 ^ k := by
      rw [← UInt8.toNat_inj, UInt8.toNat_ofNat', UInt8.toNat_ofNat', Nat.mod_eq_of_lt q1, Nat.mod_eq_of_lt q2]
    rw [Bool.eq_iff_iff]
    simp only [Bool.or_eq_true, decide_eq_true_eq, Bool.and_eq_true, beq_iff_eq, l1, l2]
    generalize c / 256 ^ k = x at *
    generalize d / 256 ^ k = y at *
    generalize c % 256 ^ k = u at *
    generalize d % 256 ^ k = v at *
    generalize 256 ^ k = q at *
    constructor
    · rintro (h | ⟨h, h2⟩)
      · have : q * (x + 1) ≤ q * y := Nat.mul_le_mul_left q h
        rw [Nat.mul_add, Nat.mul_one] at this
        omega
      · subst h; omega
    · intro h
      rcases Nat.lt_trichotomy x y with h1 | h1 | h1
      · exact .inl h1
      · subst h1; exact .inr ⟨rfl, by omega⟩
      · exfalso
        have : q * (y + 1) ≤ q * x := Nat.mul_le_mul_left q h1
        rw [Nat.mul_add, Nat.mul_one] at this
        omega
theorem be_inj (k c d : Nat) (hc : c < 256 ^ k) (hd : d < 256 ^ k) : (be k c == be k d) = decide (c = d) := by
  rw [Bool.eq_iff_iff]
  simp only [beq_iff_eq, decide_eq_true_eq]
  constructor
  · intro h
    have := congrArg val h
    rwa [val_be_lt k c hc, val_be_lt k d hd] at this
  · rintro rfl; rfl
end Go.Proofs.YtbdbmoinoehneaaDoor
