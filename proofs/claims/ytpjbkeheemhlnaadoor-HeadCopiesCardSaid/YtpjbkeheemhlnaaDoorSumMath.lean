/- Plain facts on the register of the checksum: a byte into it is linear and one-to-one. No program. -/
import Derived.Test.YtpjbkeheemhlnaaDoorSumAdd
namespace Go.Proofs.YtpjbkeheemhlnaaDoor
set_option linter.unusedVariables false

def tabN (b : Nat) : Nat := hiN (b / 16) ^^^ loN (b % 16)
/-- Eight bits on. -/
def advN (x : Nat) : Nat := x / 256 ^^^ tabN (x % 256)
def invL : List Nat := [0, 241, 226, 19, 196, 53, 38, 215, 136, 121, 106, 155, 76, 189, 174, 95, 16, 225, 242, 3, 212, 37, 54, 199, 152, 105, 122, 139, 92, 173, 190, 79, 32, 209, 194, 51, 228, 21, 6, 247, 168, 89, 74, 187, 108, 157, 142, 127, 48, 193, 210, 35, 244, 5, 22, 231, 184, 73, 90, 171, 124, 141, 158, 111, 177, 64, 83, 162, 117, 132, 151, 102, 57, 200, 219, 42, 253, 12, 31, 238, 161, 80, 67, 178, 101, 148, 135, 118, 41, 216, 203, 58, 237, 28, 15, 254, 145, 96, 115, 130, 85, 164, 183, 70, 25, 232, 251, 10, 221, 44, 63, 206, 129, 112, 99, 146, 69, 180, 167, 86, 9, 248, 235, 26, 205, 60, 47, 222, 98, 147, 128, 113, 166, 87, 68, 181, 234, 27, 8, 249, 46, 223, 204, 61, 114, 131, 144, 97, 182, 71, 84, 165, 250, 11, 24, 233, 62, 207, 220, 45, 66, 179, 160, 81, 134, 119, 100, 149, 202, 59, 40, 217, 14, 255, 236, 29, 82, 163, 176, 65, 150, 103, 116, 133, 218, 43, 56, 201, 30, 239, 252, 13, 211, 34, 49, 192, 23, 230, 245, 4, 91, 170, 185, 72, 159, 110, 125, 140, 195, 50, 33, 208, 7, 246, 229, 20, 75, 186, 169, 88, 143, 126, 109, 156, 243, 2, 17, 224, 55, 198, 213, 36, 123, 138, 153, 104, 191, 78, 93, 172, 227, 18, 1, 240, 39, 214, 197, 52, 107, 154, 137, 120, 175, 94, 77, 188]
theorem tab_inv : ∀ b, b < 256 → invL.getD (tabN b / 16777216) 0 = b := by decide +kernel
theorem tab_lt (b : Nat) : tabN b < 4294967296 := xor_lt32 _ _ (hi_lt _) (lo_lt _)
theorem adv_lt (x : Nat) (h : x < 4294967296) : advN x < 4294967296 := xor_lt32 _ _ (by omega) (tab_lt _)
theorem xor_div (a b k : Nat) : (a ^^^ b) / 2 ^ k = a / 2 ^ k ^^^ b / 2 ^ k := by
  rw [← Nat.shiftRight_eq_div_pow, ← Nat.shiftRight_eq_div_pow, ← Nat.shiftRight_eq_div_pow, Nat.shiftRight_xor_distrib]
theorem xor_mod (a b k : Nat) : (a ^^^ b) % 2 ^ k = a % 2 ^ k ^^^ b % 2 ^ k := Nat.xor_mod_two_pow
theorem hi_lin : ∀ a, a < 16 → ∀ b, b < 16 → hiN (a ^^^ b) = hiN a ^^^ hiN b := by decide +kernel
theorem lo_lin : ∀ a, a < 16 → ∀ b, b < 16 → loN (a ^^^ b) = loN a ^^^ loN b := by decide +kernel
theorem xor4 (a b c d : Nat) : (a ^^^ b) ^^^ (c ^^^ d) = (a ^^^ c) ^^^ (b ^^^ d) := by
  rw [Nat.xor_assoc, Nat.xor_assoc, ← Nat.xor_assoc b, ← Nat.xor_assoc c, Nat.xor_comm b c]
theorem tab_lin (a b : Nat) (ha : a < 256) (hb : b < 256) : tabN (a ^^^ b) = tabN a ^^^ tabN b := by
  unfold tabN
  rw [show (a ^^^ b) / 16 = a / 16 ^^^ b / 16 from xor_div a b 4, show (a ^^^ b) % 16 = a % 16 ^^^ b % 16 from xor_mod a b 4,
    hi_lin _ (by omega) _ (by omega), lo_lin _ (by omega) _ (by omega), xor4]
theorem adv_lin (x y : Nat) : advN (x ^^^ y) = advN x ^^^ advN y := by
  unfold advN
  rw [show (x ^^^ y) / 256 = x / 256 ^^^ y / 256 from xor_div x y 8, show (x ^^^ y) % 256 = x % 256 ^^^ y % 256 from xor_mod x y 8,
    tab_lin _ _ (by omega) (by omega), xor4]
theorem adv_top (x : Nat) (h : x < 4294967296) : advN x / 16777216 = tabN (x % 256) / 16777216 := by
  unfold advN
  rw [show (x / 256 ^^^ tabN (x % 256)) / 16777216 = x / 256 / 16777216 ^^^ tabN (x % 256) / 16777216 from xor_div _ _ 24, show x / 256 / 16777216 = 0 by omega, Nat.zero_xor]
/-- Where the step leaves nothing above 24 bits, the lowest byte was nought, and the step was a shift. -/
theorem adv_small (x : Nat) (h : x < 4294967296) (hs : advN x < 16777216) : x = 256 * advN x := by
  have h1 := adv_top x h
  rw [show advN x / 16777216 = 0 by omega] at h1
  have h2 := tab_inv (x % 256) (by omega)
  rw [← h1] at h2
  have h3 : x % 256 = 0 := by rw [← h2]; rfl
  unfold advN
  rw [h3, show tabN 0 = 0 from rfl, Nat.xor_zero]
  omega
theorem xor_eq_zero {a b : Nat} (h : a ^^^ b = 0) : a = b := by
  have : (a ^^^ b) ^^^ b = b := by rw [h, Nat.zero_xor]
  rwa [Nat.xor_assoc, Nat.xor_self, Nat.xor_zero] at this
theorem adv_inj (x y : Nat) (hx : x < 4294967296) (hy : y < 4294967296) (h : advN x = advN y) : x = y := by
  have h0 : advN (x ^^^ y) = 0 := by rw [adv_lin, h, Nat.xor_self]
  have := adv_small (x ^^^ y) (xor_lt32 _ _ hx hy) (by omega)
  rw [h0] at this
  exact xor_eq_zero (by simpa using this)
theorem xor_byte (r c : Nat) (hc : c < 256) : (r ^^^ c) / 256 = r / 256 ∧ (r ^^^ c) % 256 = r % 256 ^^^ c := by
  rw [show (r ^^^ c) / 256 = r / 256 ^^^ c / 256 from xor_div r c 8, show (r ^^^ c) % 256 = r % 256 ^^^ c % 256 from xor_mod r c 8, show c / 256 = 0 by omega, Nat.mod_eq_of_lt hc]
  exact ⟨Nat.xor_zero _, rfl⟩
theorem upd_adv (r c : Nat) (hc : c < 256) : updN r c = advN (r ^^^ c) := by
  obtain ⟨h1, h2⟩ := xor_byte r c hc
  unfold advN updN tabN
  rw [h1, h2, Nat.xor_assoc]
theorem upd_lin (r r' c c' : Nat) (hc : c < 256) (hc' : c' < 256) : updN (r ^^^ r') (c ^^^ c') = updN r c ^^^ updN r' c' := by
  rw [upd_adv _ _ (xor_lt8 _ _ hc hc'), upd_adv _ _ hc, upd_adv _ _ hc', ← adv_lin, xor4]
theorem xor_cancel_left {a b c : Nat} (h : a ^^^ b = a ^^^ c) : b = c := by
  have := congrArg (fun z => a ^^^ z) h
  simpa [← Nat.xor_assoc] using this
theorem xor_cancel_right {a b c : Nat} (h : b ^^^ a = c ^^^ a) : b = c := by
  rw [Nat.xor_comm b, Nat.xor_comm c] at h; exact xor_cancel_left h
theorem upd_inj_r (r r' c : Nat) (hr : r < 4294967296) (hr' : r' < 4294967296) (hc : c < 256) (h : updN r c = updN r' c) : r = r' := by
  rw [upd_adv _ _ hc, upd_adv _ _ hc] at h
  exact xor_cancel_right (adv_inj _ _ (xor_lt32 _ _ hr (by omega)) (xor_lt32 _ _ hr' (by omega)) h)
theorem upd_inj_c (r c c' : Nat) (hr : r < 4294967296) (hc : c < 256) (hc' : c' < 256) (h : updN r c = updN r c') : c = c' := by
  rw [upd_adv _ _ hc, upd_adv _ _ hc'] at h
  exact xor_cancel_left (adv_inj _ _ (xor_lt32 _ _ hr (by omega)) (xor_lt32 _ _ hr (by omega)) h)
theorem upds_inj (l : List UInt8) : ∀ r r' : Nat, r < 4294967296 → r' < 4294967296 → updsN r l = updsN r' l → r = r' := by
  induction l with
  | nil => intro r r' _ _ h; exact h
  | cons c l ih =>
    intro r r' hr hr' h
    exact upd_inj_r r r' c.toNat hr hr' c.toNat_lt (ih _ _ (updN_lt _ _ hr) (updN_lt _ _ hr') h)
theorem not_inj {a b : Nat} (h : notN a = notN b) : a = b := by
  unfold notN at h
  exact xor_cancel_left h
theorem xor_twice (k a : Nat) : k ^^^ (k ^^^ a) = a := by rw [← Nat.xor_assoc, Nat.xor_self, Nat.zero_xor]
theorem not_def (a : Nat) : notN a = 4294967295 ^^^ a := rfl
theorem not_not (a : Nat) : notN (notN a) = a :=
  ((congrArg notN (not_def a)).trans (not_def _)).trans (xor_twice 4294967295 a)
theorem add_append (r : Nat) (l m : List UInt8) : addN r (l ++ m) = addN (addN r l) m := by unfold addN; rw [updsN_append, not_not]
theorem add_nil (r : Nat) : addN r [] = r := not_not r
/-- A byte more, and another byte. -/
theorem add_byte (r : Nat) (a b : UInt8) (hr : r < 4294967296) : addN r [a] = addN r [b] ↔ a = b := by
  constructor
  · intro h
    have := upd_inj_c (notN r) a.toNat b.toNat (notN_lt r hr) a.toNat_lt b.toNat_lt (not_inj h)
    exact UInt8.toNat_inj.1 this
  · rintro rfl; rfl
end Go.Proofs.YtpjbkeheemhlnaaDoor
