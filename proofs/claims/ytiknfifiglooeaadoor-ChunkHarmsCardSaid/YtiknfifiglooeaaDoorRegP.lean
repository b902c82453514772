/- Predicates in a row, for a region in any order; the length of a row, at the operation. No conditions beyond those in each statement. -/
import Derived.Test.YtiknfifiglooeaaDoorInvar6
import Derived.Test.YtiknfifiglooeaaDoorChunkHas
namespace Go.Proofs.YtiknfifiglooeaaDoor
open Go Go.RowKit Go.Proofs.Tryd
set_option linter.unusedVariables false
set_option maxRecDepth 100000

/-- The j-th of some predicates; nothing behind them. -/
def atP : List (Value → World → Prop) → Nat → Value → World → Prop
  | [], _ => fun _ _ => True
  | p :: _, 0 => p
  | _ :: l, n + 1 => atP l n
/-- All of them survive R. -/
def AtK (R : World → World → Prop) (l : List (Value → World → Prop)) : Prop := ∀ p ∈ l, ∀ v w w', p v w → R w w' → p v w'
theorem atK0 {R : World → World → Prop} : AtK R [] := fun p h => by cases h
theorem atK1 {R : World → World → Prop} {p : Value → World → Prop} {l : List (Value → World → Prop)} (h : ∀ v w w', p v w → R w w' → p v w') (k : AtK R l) : AtK R (p :: l) := fun q hq => by
  rcases List.mem_cons.1 hq with rfl | hq
  · exact h
  · exact k q hq
theorem atP_keep {R : World → World → Prop} : ∀ {l : List (Value → World → Prop)} (k : AtK R l) (i : Nat) {v : Value} {w w' : World}, atP l i v w → R w w' → atP l i v w'
  | [], _, _, _, _, _, _, _ => trivial
  | p :: l, k, 0, v, w, w', h, hr => k p (by simp) v w w' h hr
  | p :: l, k, n + 1, v, w, w', h, hr => atP_keep (l := l) (fun q hq => k q (List.mem_cons_of_mem _ hq)) n h hr
theorem run_neI (W : World) (x y : Int) (B : Bool) (h : (x != y) = B) (s1 s2 : Operand) : (do eqGuard .neq 3 s1 s2 (.int .i64 x) (.int .i64 y); binOp .neq 3 (.int .i64 x) (.int .i64 y) : Sem Value).run Tryd.prog W = .ok (.bool B) W := by
  subst h; go_simp
theorem run_ltI (W : World) (x y : Int) (B : Bool) (h : decide (x < y) = B) (s1 s2 : Operand) : (do eqGuard .lss 3 s1 s2 (.int .i64 x) (.int .i64 y); binOp .lss 3 (.int .i64 x) (.int .i64 y) : Sem Value).run Tryd.prog W = .ok (.bool B) W := by
  subst h; go_simp
theorem run_gtI (W : World) (x y : Int) (B : Bool) (h : decide (x > y) = B) (s1 s2 : Operand) : (do eqGuard .gtr 3 s1 s2 (.int .i64 x) (.int .i64 y); binOp .gtr 3 (.int .i64 x) (.int .i64 y) : Sem Value).run Tryd.prog W = .ok (.bool B) W := by
  subst h; go_simp
theorem run_addI (W : World) (x y z : Int) (h : IntKind.i64.wrap (x + y) = z) (s1 s2 : Operand) : (do eqGuard .add 3 s1 s2 (.int .i64 x) (.int .i64 y); binOp .add 3 (.int .i64 x) (.int .i64 y) : Sem Value).run Tryd.prog W = .ok (.int .i64 z) W := by
  subst h; go_simp
theorem run_andI (W : World) (x y z : Int) (h : bits .and .i64 x y = z) (s1 s2 : Operand) : (do eqGuard .and 3 s1 s2 (.int .i64 x) (.int .i64 y); binOp .and 3 (.int .i64 x) (.int .i64 y) : Sem Value).run Tryd.prog W = .ok (.int .i64 z) W := by
  subst h; go_simp
theorem run_xorI (W : World) (x y z : Int) (h : bits .xor .i64 x y = z) (s1 s2 : Operand) : (do eqGuard .xor 3 s1 s2 (.int .i64 x) (.int .i64 y); binOp .xor 3 (.int .i64 x) (.int .i64 y) : Sem Value).run Tryd.prog W = .ok (.int .i64 z) W := by
  subst h; go_simp
theorem run_eqE (W : World) (x y : Int) (B : Bool) (h : (x == y) = B) (s1 s2 : Operand) : (do eqGuard .eql 50 s1 s2 (.int .i64 x) (.int .i64 y); binOp .eql 50 (.int .i64 x) (.int .i64 y) : Sem Value).run Tryd.prog W = .ok (.bool B) W := by
  subst h; go_simp
theorem run_neU (W : World) (x y : Int) (B : Bool) (h : (x != y) = B) (s1 s2 : Operand) : (do eqGuard .neq 70 s1 s2 (.int .u32 x) (.int .u32 y); binOp .neq 70 (.int .u32 x) (.int .u32 y) : Sem Value).run Tryd.prog W = .ok (.bool B) W := by
  subst h; go_simp
theorem run_eqS (W : World) (x y : ByteArray) (B : Bool) (h : (x.toList == y.toList) = B) (s1 s2 : Operand) : (do eqGuard .eql 9 s1 s2 (.string x) (.string y); binOp .eql 9 (.string x) (.string y) : Sem Value).run Tryd.prog W = .ok (.bool B) W := by
  subst h; go_simp
theorem xor1_ne (a : Int) : bits .xor .i64 a 1 ≠ a := by
  intro h
  have h' : IntKind.i64.wrap ((BitVec.ofInt 64 a ^^^ BitVec.ofInt 64 1).toNat : Nat) = a := h
  rw [IntKind.wrap_i64, BitVec.toNat_xor, BitVec.toNat_ofInt, BitVec.toNat_ofInt] at h'
  have e1 : ((1 : Int) % ((2 ^ 64 : Nat) : Int)).toNat = 1 := by decide
  rw [e1] at h'
  obtain ⟨A, hA⟩ : ∃ A : Nat, A = (a % ((2 ^ 64 : Nat) : Int)).toNat := ⟨_, rfl⟩
  have hm : (A ^^^ 1) % 2 = (A % 2) ^^^ 1 := by
    have := Nat.xor_mod_two_pow (a := A) (b := 1) (n := 1)
    simpa using this
  rw [← hA] at h'
  have hA2 : (A : Int) % 2 = a % 2 := by omega
  rcases (show A % 2 = 0 ∨ A % 2 = 1 by omega) with h0 | h0
  · rw [h0] at hm
    have : (0 ^^^ 1 : Nat) = 1 := by decide
    omega
  · rw [h0] at hm
    have : (1 ^^^ 1 : Nat) = 0 := by decide
    omega
theorem i64_and2047 (n : Int) : bits .and .i64 n 2047 = n % 2048 := by
  have h127 : (BitVec.ofInt 64 2047).toNat = 2 ^ 11 - 1 := by decide
  have key : (BitVec.ofInt 64 n &&& BitVec.ofInt 64 2047).toNat = (n % ((2 ^ 64 : Nat) : Int)).toNat % 2 ^ 11 := by
    rw [BitVec.toNat_and, BitVec.toNat_ofInt, h127, Nat.and_two_pow_sub_one_eq_mod]
  show IntKind.i64.wrap ((BitVec.ofInt 64 n &&& BitVec.ofInt 64 2047).toNat : Nat) = n % 2048
  rw [key, IntKind.wrap_i64]
  omega
theorem i64_and255 (n : Int) : bits .and .i64 n 255 = n % 256 := by
  have h127 : (BitVec.ofInt 64 255).toNat = 2 ^ 8 - 1 := by decide
  have key : (BitVec.ofInt 64 n &&& BitVec.ofInt 64 255).toNat = (n % ((2 ^ 64 : Nat) : Int)).toNat % 2 ^ 8 := by
    rw [BitVec.toNat_and, BitVec.toNat_ofInt, h127, Nat.and_two_pow_sub_one_eq_mod]
  show IntKind.i64.wrap ((BitVec.ofInt 64 n &&& BitVec.ofInt 64 255).toNat : Nat) = n % 256
  rw [key, IntKind.wrap_i64]
  omega
theorem i64_and15 (n : Int) : bits .and .i64 n 15 = n % 16 := by
  have h127 : (BitVec.ofInt 64 15).toNat = 2 ^ 4 - 1 := by decide
  have key : (BitVec.ofInt 64 n &&& BitVec.ofInt 64 15).toNat = (n % ((2 ^ 64 : Nat) : Int)).toNat % 2 ^ 4 := by
    rw [BitVec.toNat_and, BitVec.toNat_ofInt, h127, Nat.and_two_pow_sub_one_eq_mod]
  show IntKind.i64.wrap ((BitVec.ofInt 64 n &&& BitVec.ofInt 64 15).toNat : Nat) = n % 16
  rw [key, IntKind.wrap_i64]
  omega
theorem i64_and4095 (n : Int) : bits .and .i64 n 4095 = n % 4096 := by
  have h127 : (BitVec.ofInt 64 4095).toNat = 2 ^ 12 - 1 := by decide
  have key : (BitVec.ofInt 64 n &&& BitVec.ofInt 64 4095).toNat = (n % ((2 ^ 64 : Nat) : Int)).toNat % 2 ^ 12 := by
    rw [BitVec.toNat_and, BitVec.toNat_ofInt, h127, Nat.and_two_pow_sub_one_eq_mod]
  show IntKind.i64.wrap ((BitVec.ofInt 64 n &&& BitVec.ofInt 64 4095).toNat : Nat) = n % 4096
  rw [key, IntKind.wrap_i64]
  omega
section
variable {Q : Exit → Act → World → Prop} {l : List Oper}
theorem gstep_lenLSs {i : Nat} {o : Oper} {a : Act} {w : World} {K : Act → World → Prop} (ho : l[i]? = some o) (hw : WantedIs l a o true) (s : Operand) (hop : o.op = .call { callee := .builtin .len, args := #[s], argTypes := #[63] }) (p : Option Addr) (n c : Nat) (he : a.eval s = .slice p n c)
    (h : K (a.put o.dst (.int .i64 n)) w) : Step Tryd.prog l Q i K a w :=
  gstep_value ho hw _ w (by simp only [execOp, hop, resolve, List.map_toArray, List.map_cons, List.map_nil, he]; go_simp) h
theorem gstep_lenLSm {i : Nat} {o : Oper} {a : Act} {w : World} {K : Act → World → Prop} (ho : l[i]? = some o) (hw : WantedIs l a o true) (s : Operand) (hop : o.op = .call { callee := .builtin .len, args := #[s], argTypes := #[65] }) (p : Option Addr) (n c : Nat) (he : a.eval s = .slice p n c)
    (h : K (a.put o.dst (.int .i64 n)) w) : Step Tryd.prog l Q i K a w :=
  gstep_value ho hw _ w (by simp only [execOp, hop, resolve, List.map_toArray, List.map_cons, List.map_nil, he]; go_simp) h
theorem gstep_lenLIn {i : Nat} {o : Oper} {a : Act} {w : World} {K : Act → World → Prop} (ho : l[i]? = some o) (hw : WantedIs l a o true) (s : Operand) (hop : o.op = .call { callee := .builtin .len, args := #[s], argTypes := #[90] }) (p : Option Addr) (n c : Nat) (he : a.eval s = .slice p n c)
    (h : K (a.put o.dst (.int .i64 n)) w) : Step Tryd.prog l Q i K a w :=
  gstep_value ho hw _ w (by simp only [execOp, hop, resolve, List.map_toArray, List.map_cons, List.map_nil, he]; go_simp) h
end
end Go.Proofs.YtiknfifiglooeaaDoor
