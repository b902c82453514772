/- Net.Next: what is due first. No conditions beyond those in each statement. -/
import Derived.Test.YtfijidaohlnphaaNOwn
namespace Go.Proofs.Ytfijidaohlnphaa
open Go.RowKit
set_option linter.unusedVariables false
set_option linter.unusedSimpArgs false
set_option maxRecDepth 100000

theorem run_fN0 (W : World) (nb : Nat) : (Instr.fieldAt 28 (.pointer (some ⟨nb, 0, none⟩)) 0).run Try.prog W = .ok (.pointer (some ⟨nb, 0, none⟩)) W := by go_simp
theorem run_fN2 (W : World) (nb : Nat) : (Instr.fieldAt 28 (.pointer (some ⟨nb, 0, none⟩)) 2).run Try.prog W = .ok (.pointer (some ⟨nb, 2, none⟩)) W := by go_simp
theorem run_fF0 (W : World) (nb : Nat) : (Instr.fieldAt 58 (.pointer (some ⟨nb, 0, none⟩)) 0).run Try.prog W = .ok (.pointer (some ⟨nb, 0, none⟩)) W := by go_simp
theorem run_eqp (W : World) (nb : Nat) (s1 s2 : Operand) : (do eqGuard .eql 24 s1 s2 (.pointer (some ⟨nb, 0, none⟩)) (.pointer none); binOp .eql 24 (.pointer (some ⟨nb, 0, none⟩)) (.pointer none) : Sem Value).run Try.prog W = .ok (.bool false) W := by go_simp
theorem run_eqn (W : World) (s1 s2 : Operand) : (do eqGuard .eql 24 s1 s2 (.pointer none) (.pointer none); binOp .eql 24 (.pointer none) (.pointer none) : Sem Value).run Try.prog W = .ok (.bool true) W := by go_simp
theorem run_eq0 (W : World) (n : Int) (B : Bool) (hB : (n == 0) = B) (s1 s2 : Operand) : (do eqGuard .eql 3 s1 s2 (.int .i64 n) (.int .i64 0); binOp .eql 3 (.int .i64 n) (.int .i64 0) : Sem Value).run Try.prog W = .ok (.bool B) W := by rw [← hB]; go_simp
theorem run_gt (W : World) (x y : Int) (s1 s2 : Operand) : (do eqGuard .gtr 3 s1 s2 (.int .i64 x) (.int .i64 y); binOp .gtr 3 (.int .i64 x) (.int .i64 y) : Sem Value).run Try.prog W = .ok (.bool (decide (y < x))) W := by go_simp
theorem run_ld (W : World) (b i : Nat) (x : Int) (h : W.cell? ⟨b, i, none⟩ = some (.int .i64 x)) : (Instr.loadAt 3 (.pointer (some ⟨b, i, none⟩))).run Try.prog W = .ok (.int .i64 x) W := by go_simp
theorem call_len (W : World) (v : Value) : (callFunc 14 #[v]).run Try.prog W = .ok (.enter 14 #[v]) W := by kernel_rfl
theorem next_results (W : World) (tmps : Array Value) (b : Nat) (u v : Value) (n : Mg) (e : Bool) (h2 : tmps.getD 2 undef = .pointer (some ⟨b, 0, none⟩)) (h3 : tmps.getD 3 undef = .bool e) (hN : MgB W b u v n) :
    (results Try.f9 tmps).run Try.prog W = .ok (.tuple #[mgV u v n, .bool e]) W := by
  obtain ⟨⟨c0, c1, c2, c3, c4, c5, c6, c7, c8, c9, c10, c11, c12, c13, c14, c15, c16⟩, _⟩ := MgB.cells hN
  rw [Array.getD_eq_getD_getElem?] at h2 h3
  simp [results, Try.results9, go_sem, h2, h3, c0, c1, c2, c3, c4, c5, c6, c7, c8, c9, c10, c11, c12, c13, c14, c15, c16, mgV]
theorem zeroM {W : World} {b : Nat} (h : MgB W b (.slice none 0 0) (.slice none 0 0) Mg.zero) : ∃ W', (Instr.storeAt 41 (.pointer (some ⟨b, 0, none⟩)) (mgV (.slice none 0 0) (.slice none 0 0) Mg.zero)).run Try.prog W = .ok () W' ∧ MgB W' b (.slice none 0 0) (.slice none 0 0) Mg.zero ∧ (∀ (q : Nat) (x : World), q ≤ b → Below q x W → Below q x W') := by
  obtain ⟨W', h1, h2, h3, _⟩ := storeM (a := none) (n := 0) (c := 0) (sa := none) (k := 0) (sc := 0) h Mg.zero
  exact ⟨W', h1, h2, h3⟩
end Go.Proofs.Ytfijidaohlnphaa
