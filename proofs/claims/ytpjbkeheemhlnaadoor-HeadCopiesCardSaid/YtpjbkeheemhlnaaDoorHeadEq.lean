/- Heads compared and loaded, at the operations. No conditions beyond those in each statement. -/
import Derived.Test.YtpjbkeheemhlnaaDoorHeadW
namespace Go.Proofs.YtpjbkeheemhlnaaDoor
open Go.RowKit
set_option linter.unusedVariables false
set_option maxRecDepth 100000

theorem eq_hdB (a b : Hd) (B : Bool) (hB : B = true ↔ a = b) (W : World) : (binOp .eql 23 (headV a) (headV b)).run Tryd.prog W = .ok (.bool B) W := by
  obtain ⟨k, i, t, d⟩ := a
  obtain ⟨k', i', t', d'⟩ := b
  have hF : ¬ ((⟨k, i, t, d⟩ : Hd) = ⟨k', i', t', d'⟩) → B = false := fun h => by rw [← Bool.not_eq_true, hB]; exact h
  unfold headV
  by_cases h1 : k = k'
  · by_cases h2 : i = i'
    · by_cases h3 : t = t'
      · by_cases h4 : d = d'
        · subst h1 h2 h3 h4
          rw [hB.2 rfl]
          simp [go_sem]
        · subst h1 h2 h3
          rw [hF (fun e => h4 (Hd.mk.inj e).2.2.2)]
          simp [go_sem, h4]
      · subst h1 h2
        rw [hF (fun e => h3 (Hd.mk.inj e).2.2.1)]
        simp [go_sem, h3]
    · subst h1
      rw [hF (fun e => h2 (Hd.mk.inj e).2.1)]
      simp [go_sem, h2]
  · rw [hF (fun e => h1 (Hd.mk.inj e).1)]
    simp [go_sem, h1]
theorem ne_hd (a : Hd) (W : World) : (binOp .neq 23 (.agg #[.int .i64 a.term, .int .i64 a.vote, .int .i64 a.first, .int .i64 a.base]) (.agg #[.int .i64 a.term, .int .i64 a.vote, .int .i64 a.first, .int .i64 a.base])).run Tryd.prog W = .ok (.bool false) W := by
  simp [go_sem]
theorem run_loadH (W : World) (b : Nat) (h : Hd) (hb : HdB W b h) : (Instr.loadAt 23 (.pointer (some ⟨b, 0, none⟩))).run Tryd.prog W = .ok (headV h) W := by
  obtain ⟨⟨c0, c1, c2, c3⟩, _⟩ := hb.cells
  unfold headV
  go_simp
theorem run_eqH (W : World) (a b : Hd) (B : Bool) (hB : B = true ↔ a = b) (s1 s2 : Operand) : (do eqGuard .eql 23 s1 s2 (headV a) (headV b); binOp .eql 23 (headV a) (headV b) : Sem Value).run Tryd.prog W = .ok (.bool B) W := by
  have hT : (a.term = b.term ∧ a.vote = b.vote ∧ a.first = b.first ∧ a.base = b.base) → B = true := fun h => hB.2 (Hd.ext' h.1 h.2.1 h.2.2.1 h.2.2.2)
  have hF : ¬ (a.term = b.term ∧ a.vote = b.vote ∧ a.first = b.first ∧ a.base = b.base) → B = false := fun h => by
    rw [← Bool.not_eq_true, hB]
    exact fun e => h (by rw [e]; exact ⟨rfl, rfl, rfl, rfl⟩)
  unfold headV
  go_simp
  by_cases h1 : a.term = b.term
  · by_cases h2 : a.vote = b.vote
    · by_cases h3 : a.first = b.first
      · by_cases h4 : a.base = b.base
        · rw [if_pos h1, if_pos h2, if_pos h3, if_pos h4, hT ⟨h1, h2, h3, h4⟩]
        · rw [if_pos h1, if_pos h2, if_pos h3, if_neg h4, hF (fun h => h4 h.2.2.2)]
      · rw [if_pos h1, if_pos h2, if_neg h3, hF (fun h => h3 h.2.2.1)]
    · rw [if_pos h1, if_neg h2, hF (fun h => h2 h.2.1)]
  · rw [if_neg h1, hF (fun h => h1 h.1)]
theorem run_eqE (W : World) (z : Int) (s1 s2 : Operand) : (do eqGuard .eql 29 s1 s2 (.int .i64 z) (.int .i64 z); binOp .eql 29 (.int .i64 z) (.int .i64 z) : Sem Value).run Tryd.prog W = .ok (.bool true) W := by
  go_simp
theorem call_head (W : World) (u : Value) : (callFunc 21 #[u]).run Tryd.prog W = .ok (.enter 21 #[u]) W := by go_simp
end Go.Proofs.YtpjbkeheemhlnaaDoor
