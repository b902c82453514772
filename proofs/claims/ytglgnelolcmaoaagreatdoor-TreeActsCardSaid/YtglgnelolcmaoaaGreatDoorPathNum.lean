/- Numbers behind a path, of ten digits: their order, and back. No conditions beyond those in each statement. -/
import Derived.Test.YtglgnelolcmaoaaGreatDoorPathFns
import Derived.Lib.Atoi
import Derived.Lib.ItoaNum
import Derived.Lib.LaidTab
namespace Go.Proofs.YtglgnelolcmaoaaGreatDoor
open Go.RowKit
set_option linter.unusedVariables false
set_option linter.unusedSimpArgs false
set_option maxRecDepth 100000

/-- The last k digits of n. -/
def dig : Nat → Nat → List UInt8
  | 0, _ => []
  | k + 1, n => dig k (n / 10) ++ [UInt8.ofNat (48 + n % 10)]
theorem dig_len : ∀ k n, (dig k n).length = k
  | 0, _ => rfl
  | k + 1, n => by simp [dig, dig_len k]
theorem dig_zero : ∀ k, dig k 0 = List.replicate k 48
  | 0 => rfl
  | k + 1 => by
    simp [dig, dig_zero k, List.replicate_succ']
theorem repeat_one (k : Nat) : Lib.repeatL [48] k = List.replicate k 48 := by
  induction k with
  | zero => rfl
  | succ k ih => rw [Lib.repeatL, ih]; rfl
theorem pad_dig : ∀ k n, 1 ≤ k → n < 10 ^ k → (Lib.decDigits n).length ≤ k ∧ Lib.repeatL [48] (k - (Lib.decDigits n).length) ++ Lib.decDigits n = dig k n
  | 0, _, h, _ => by omega
  | k + 1, n, _, hn => by
    by_cases h10 : n < 10
    · have e : Lib.decDigits n = [UInt8.ofNat (48 + n)] := by rw [Lib.decDigits, dif_pos h10]
      have e2 : n / 10 = 0 := by omega
      have e3 : n % 10 = n := by omega
      rw [e]
      refine ⟨by simp, ?_⟩
      simp only [dig, e2, e3, dig_zero, repeat_one]
      simp
    · have hk : 1 ≤ k := by
        rcases Nat.eq_zero_or_pos k with rfl | h
        · simp at hn; omega
        · exact h
      have e : Lib.decDigits n = Lib.decDigits (n / 10) ++ [UInt8.ofNat (48 + n % 10)] := by rw [Lib.decDigits, dif_neg h10]
      have hq : n / 10 < 10 ^ k := Nat.div_lt_of_lt_mul (by rw [Nat.pow_succ, Nat.mul_comm] at hn; exact hn)
      obtain ⟨h1, h2⟩ := pad_dig k (n / 10) hk hq
      rw [e]
      refine ⟨by simp; exact h1, ?_⟩
      simp only [dig, ← h2]
      simp
theorem byte_less (a b : Nat) (ha : a < 10) (hb : b < 10) : decide (UInt8.ofNat (48 + a) < UInt8.ofNat (48 + b)) = decide (a < b) := by
  match a, ha, b, hb with
  | a, ha, b, hb =>
    rw [Bool.eq_iff_iff]
    simp [UInt8.lt_iff_toNat_lt, Nat.mod_eq_of_lt (show 48 + a < 256 by omega), Nat.mod_eq_of_lt (show 48 + b < 256 by omega)]
theorem byte_same (a b : Nat) (ha : a < 10) (hb : b < 10) : UInt8.ofNat (48 + a) = UInt8.ofNat (48 + b) ↔ a = b := by
  constructor
  · intro h
    have := congrArg UInt8.toNat h
    simp [Nat.mod_eq_of_lt (show 48 + a < 256 by omega), Nat.mod_eq_of_lt (show 48 + b < 256 by omega)] at this
    exact this
  · rintro rfl; rfl
theorem dig_inj : ∀ k n m, n < 10 ^ k → m < 10 ^ k → dig k n = dig k m → n = m
  | 0, n, m, hn, hm, _ => by simp at hn hm; omega
  | k + 1, n, m, hn, hm, h => by
    have := List.append_inj' h rfl
    have h1 : UInt8.ofNat (48 + n % 10) = UInt8.ofNat (48 + m % 10) := by simpa using this.2
    rw [byte_same _ _ (by omega) (by omega)] at h1
    have h2 := dig_inj k (n / 10) (m / 10) (Nat.div_lt_of_lt_mul (by rw [Nat.pow_succ, Nat.mul_comm] at hn; exact hn)) (Nat.div_lt_of_lt_mul (by rw [Nat.pow_succ, Nat.mul_comm] at hm; exact hm)) this.1
    omega
theorem less_snoc : ∀ (a b : List UInt8) (x y : UInt8), a.length = b.length → Op.bytesLess (a ++ [x]) (b ++ [y]) = (Op.bytesLess a b || (decide (a = b) && decide (x < y)))
  | [], [], x, y, _ => by simp [Op.bytesLess]
  | [], b :: m, _, _, h => by simp at h
  | a :: l, [], _, _, h => by simp at h
  | a :: l, b :: m, x, y, h => by
    have ih := less_snoc l m x y (by simpa using h)
    simp only [List.cons_append, Op.bytesLess, ih]
    by_cases hab : a = b
    · subst hab; simp
    · have hb : (a == b) = false := by simpa using hab
      simp [hab, hb]
theorem less_front : ∀ (s a b : List UInt8), Op.bytesLess (s ++ a) (s ++ b) = Op.bytesLess a b
  | [], _, _ => rfl
  | c :: s, a, b => by simp [Op.bytesLess, less_front s a b]
theorem less_dig : ∀ k n m, n < 10 ^ k → m < 10 ^ k → Op.bytesLess (dig k n) (dig k m) = decide (n < m)
  | 0, n, m, hn, hm => by simp at hn hm; subst hn hm; simp [dig, Op.bytesLess]
  | k + 1, n, m, hn, hm => by
    have hn' : n / 10 < 10 ^ k := Nat.div_lt_of_lt_mul (by rw [Nat.pow_succ, Nat.mul_comm] at hn; exact hn)
    have hm' : m / 10 < 10 ^ k := Nat.div_lt_of_lt_mul (by rw [Nat.pow_succ, Nat.mul_comm] at hm; exact hm)
    simp only [dig]
    rw [less_snoc _ _ _ _ (by rw [dig_len, dig_len]), less_dig k _ _ hn' hm', byte_less _ _ (by omega) (by omega), Bool.eq_iff_iff]
    simp only [Bool.or_eq_true, Bool.and_eq_true, decide_eq_true_eq]
    constructor
    · rintro (h | ⟨h1, h2⟩)
      · omega
      · have := dig_inj k _ _ hn' hm' h1; omega
    · intro h
      by_cases hq : n / 10 = m / 10
      · exact .inr ⟨by rw [hq], by omega⟩
      · exact .inl (by omega)
theorem decFrom_app : ∀ (l r : List UInt8) (acc : Nat), Lib.decFrom acc (l ++ r) = (Lib.decFrom acc l).bind (fun a => Lib.decFrom a r)
  | [], _, _ => rfl
  | b :: l, r, acc => by
    simp only [List.cons_append, Lib.decFrom]
    cases Lib.digitVal b with
    | none => rfl
    | some d => exact decFrom_app l r _
theorem digitVal_of (d : Nat) (h : d < 10) : Lib.digitVal (UInt8.ofNat (48 + d)) = some d := by
  unfold Lib.digitVal
  simp [Nat.mod_eq_of_lt (show 48 + d < 256 by omega)]; omega
theorem decFrom_dig : ∀ k n, n < 10 ^ k → Lib.decFrom 0 (dig k n) = some n
  | 0, n, h => by simp at h; subst h; rfl
  | k + 1, n, h => by
    have hn' : n / 10 < 10 ^ k := Nat.div_lt_of_lt_mul (by rw [Nat.pow_succ, Nat.mul_comm] at h; exact h)
    simp only [dig]
    rw [decFrom_app, decFrom_dig k _ hn']
    show (match Lib.digitVal (UInt8.ofNat (48 + n % 10)) with
      | some d => Lib.decFrom (n / 10 * 10 + d) []
      | none => none) = some n
    rw [digitVal_of _ (show n % 10 < 10 by omega)]
    show some (n / 10 * 10 + n % 10) = some n
    congr 1; omega
theorem dig_head : ∀ k n, ∃ d, d < 10 ∧ ∃ r, dig (k + 1) n = UInt8.ofNat (48 + d) :: r
  | 0, n => ⟨n % 10, by omega, [], rfl⟩
  | k + 1, n => by
    obtain ⟨d, hd, r, hr⟩ := dig_head k (n / 10)
    exact ⟨d, hd, r ++ [UInt8.ofNat (48 + n % 10)], by rw [dig, hr]; rfl⟩
theorem atoi_dig (k n : Nat) (h : n < 10 ^ (k + 1)) : Lib.atoi (dig (k + 1) n) = some (n : Int) := by
  have hd := decFrom_dig (k + 1) n h
  obtain ⟨d, hd10, r, hr⟩ := dig_head k n
  rw [hr] at hd ⊢
  have h1 : (UInt8.ofNat (48 + d) == 45) = false := by
    rw [beq_eq_false_iff_ne]; intro e
    have := congrArg UInt8.toNat e
    rw [UInt8.toNat_ofNat', Nat.mod_eq_of_lt (show 48 + d < 256 by omega)] at this
    have h45 : (45 : UInt8).toNat = 45 := rfl
    omega
  have h2 : (UInt8.ofNat (48 + d) == 43) = false := by
    rw [beq_eq_false_iff_ne]; intro e
    have := congrArg UInt8.toNat e
    rw [UInt8.toNat_ofNat', Nat.mod_eq_of_lt (show 48 + d < 256 by omega)] at this
    have h43 : (43 : UInt8).toNat = 43 := rfl
    omega
  generalize UInt8.ofNat (48 + d) = b at hd h1 h2
  unfold Lib.atoi Lib.decNat
  show (if (b == 45) = true then Option.map (fun (m : Nat) => -(m : Int)) (if r.isEmpty = true then none else Lib.decFrom 0 r) else if (b == 43) = true then Option.map (fun (m : Nat) => (m : Int)) (if r.isEmpty = true then none else Lib.decFrom 0 r) else Option.map (fun (m : Nat) => (m : Int)) (if (b :: r).isEmpty = true then none else Lib.decFrom 0 (b :: r))) = some (n : Int)
  rw [h1, h2, if_neg (by decide), if_neg (by decide), if_neg (by simp), hd]
  rfl

def P10 (w : World) : Prop := Lib.TabIs Tryz.prog w "internal/strconv.uint64pow10" .u64 Lib.pow10Tab
theorem gP10 : Tryz.prog.globalNamed "internal/strconv.uint64pow10" = some 3 := by kernel_rfl
theorem P10.below {w w' : World} (h : P10 w) (hb : Below w.heap.size w w') : P10 w' := by
  unfold P10 Lib.TabIs World.var? at h ⊢
  rw [gP10] at h ⊢
  simp only [Option.bind_some] at h ⊢
  have hlt : 3 < w.heap.size := by
    rcases Nat.lt_or_ge 3 w.heap.size with h' | h'
    · exact h'
    · rw [Array.getElem?_eq_none h'] at h; cases h
  rw [hb.block _ hlt]
  exact h
theorem below_grow (w : World) (k : Nat) (os : Array Obj) : Below w.heap.size w (Go.Sort.grow (w.drewN k) os) := by
  refine ⟨rfl, rfl, rfl, ?_, fun j hj => ?_⟩
  · show w.heap.size ≤ (w.heap ++ os).size
    rw [Array.size_append]; omega
  · show (w.heap ++ os)[j]? = w.heap[j]?
    rw [Array.getElem?_append_left hj]
set_option maxHeartbeats 2000000 in
/-- Serial at any number of not more than ten digits: below 0 it is 0. -/
theorem serial_any (s : ByteArray) (z : Int) (n : Nat) (w : World) (hs : s.size ≤ 1000000) (hz : max z 0 = (n : Int)) (hn : n < 10 ^ 10) (hT : P10 w) : Calls Tryz.prog 56 #[.string s, .int .i64 z] w fun e w' => e = .returned (.string (bs (s.data.toList ++ dig 10 n))) ∧ Below w.heap.size w w' := by
  have hn2 : n < 10000000000 := hn
  have hpd := pad_dig 10 n (by omega) hn
  have hit : Lib.itoa (n : Int) = Lib.decDigits n := by unfold Lib.itoa; rw [if_neg (by omega)]; rfl
  have HA := Lib.hid (fun W : World => fun h : P10 W => Tryz.strconv_Itoa (n : Int) (by omega) (by omega) W h)
  rw [hit] at HA
  obtain ⟨L, hL⟩ : ∃ L, L = (Lib.decDigits n).length := ⟨_, rfl⟩
  rw [← hL] at hpd
  have hl10 := hpd.1
  have HPD := Lib.hid hpd.2
  have hsz : (bs (Lib.decDigits n)).size = L := by rw [bs_size, hL]
  have hm2 : max (10 - (L : Int)) 0 = ((10 - L : Nat) : Int) := by omega
  have HR := Lib.hid (fun W : World => Tryz.strings_Repeat (bs [48]) (10 - L) W (by omega) (by rw [bs_size]; simp; omega))
  have hrl : (Lib.repeatL [48] (10 - L)).length ≤ 10 := by rw [Lib.repeatL_length]; simp
  have HT := Lib.hid hT
  clear hL hit hpd hT
  unfold bs at hsz HR
  go_enter Tryz.func56, Tryz.ntmps56
  go_wp2_with fail
  refine (HA.out _ HT.out).mono ?_
  rintro e w2 ⟨rfl, k, os, hw2⟩
  have b2 : Below w.heap.size w w2 := by rw [hw2]; exact below_grow w k os
  clear hw2
  go_wp2_with fail
  refine (HR.out _).mono ?_
  rintro e w3 ⟨rfl, hb⟩
  go_wp2_with fail
  go_ret
  refine ⟨ret_s ?_, b2.trans (hb.mono b2.size)⟩
  rw [← HPD.out, app_bs, app_bs, bs_list]
  simp
end Go.Proofs.YtglgnelolcmaoaaGreatDoor
