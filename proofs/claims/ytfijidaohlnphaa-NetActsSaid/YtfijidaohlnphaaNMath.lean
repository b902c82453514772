/- Heaps of flights; which method a call of heap.Interface comes to. No conditions beyond those in each statement. -/
import Derived.Test.YtfijidaohlnphaaNPush
namespace Go.Proofs.Ytfijidaohlnphaa
open Go.RowKit
set_option linter.unusedVariables false
set_option linter.unusedSimpArgs false
set_option maxRecDepth 100000

theorem lessF_true {f g : Fl} : lessF f g = true ↔ f.due < g.due ∨ (f.due = g.due ∧ f.no < g.no) := by
  unfold lessF
  by_cases h : f.due = g.due
  · rw [if_pos h, decide_eq_true_iff]
    exact ⟨fun h1 => .inr ⟨h, h1⟩, fun h1 => by rcases h1 with h1 | h1; omega; exact h1.2⟩
  · rw [if_neg h, decide_eq_true_iff]
    exact ⟨fun h1 => .inl h1, fun h1 => by rcases h1 with h1 | h1; exact h1; exact absurd h1.1 h⟩
theorem lessF_false {f g : Fl} : lessF f g = false ↔ g.due < f.due ∨ (f.due = g.due ∧ g.no ≤ f.no) := by
  rw [← Bool.not_eq_true, lessF_true]
  constructor
  · intro h; omega
  · intro h; omega
theorem le_trans' {f g k : Fl} (h1 : lessF g f = false) (h2 : lessF k g = false) : lessF k f = false := by
  rw [lessF_false] at h1 h2 ⊢; omega
theorem le_of_less {f g : Fl} (h : lessF f g = true) : lessF g f = false := by
  rw [lessF_true] at h; rw [lessF_false]; omega
theorem le_self (f : Fl) : lessF f f = false := by rw [lessF_false]; omega
/-- In heap order, all of the first n. -/
def HeapL (L : List Fl) (n : Nat) : Prop := ∀ k, 0 < k → k < n → lessF (L.getD k Fl.zero) (L.getD ((k - 1) / 2) Fl.zero) = false
theorem HeapL.min {L : List Fl} {n : Nat} (h : HeapL L n) : ∀ k, k < n → lessF (L.getD k Fl.zero) (L.getD 0 Fl.zero) = false := by
  intro k
  induction k using Nat.strongRecOn with
  | _ k ih =>
    intro hk
    by_cases h0 : k = 0
    · subst h0; exact le_self _
    · exact le_trans' (ih ((k - 1) / 2) (by omega) (by omega)) (h k (by omega) hk)
/-- In heap order but for the place j, which may be ahead of what is above. -/
structure UpI (L : List Fl) (n j : Nat) : Prop where
  ot : ∀ k, 0 < k → k < n → k ≠ j → lessF (L.getD k Fl.zero) (L.getD ((k - 1) / 2) Fl.zero) = false
  ch : ∀ k, 0 < k → k < n → (k - 1) / 2 = j → 0 < j → lessF (L.getD k Fl.zero) (L.getD ((j - 1) / 2) Fl.zero) = false
/-- In heap order but for the place i, which may be behind what is below. -/
structure DownI (L : List Fl) (n i : Nat) : Prop where
  ot : ∀ k, 0 < k → k < n → (k - 1) / 2 ≠ i → lessF (L.getD k Fl.zero) (L.getD ((k - 1) / 2) Fl.zero) = false
  ch : ∀ k, 0 < k → k < n → (k - 1) / 2 = i → 0 < i → lessF (L.getD k Fl.zero) (L.getD ((i - 1) / 2) Fl.zero) = false
section
variable {L : List Fl} {n : Nat}
theorem swapL_i {i j : Nat} (hi : i < L.length) (hj : j < L.length) (hne : i ≠ j) : (swapL L i j).getD i Fl.zero = L.getD j Fl.zero := by rw [swapL_at hi hj, if_neg hne, if_pos rfl]
theorem swapL_j {i j : Nat} (hi : i < L.length) (hj : j < L.length) : (swapL L i j).getD j Fl.zero = L.getD i Fl.zero := by rw [swapL_at hi hj, if_pos rfl]
theorem swapL_k {i j k : Nat} (hi : i < L.length) (hj : j < L.length) (h1 : k ≠ i) (h2 : k ≠ j) : (swapL L i j).getD k Fl.zero = L.getD k Fl.zero := by rw [swapL_at hi hj, if_neg h2, if_neg h1]
theorem UpI.swap {j : Nat} (h : UpI L n j) (h0 : 0 < j) (hj : j < n) (hn : n ≤ L.length) (hl : lessF (L.getD j Fl.zero) (L.getD ((j - 1) / 2) Fl.zero) = true) : UpI (swapL L ((j - 1) / 2) j) n ((j - 1) / 2) := by
  obtain ⟨i, hi⟩ : ∃ i, i = (j - 1) / 2 := ⟨_, rfl⟩
  rw [← hi] at hl ⊢
  have hij : i < j := by omega
  have hjL : j < L.length := by omega
  have hiL : i < L.length := by omega
  refine ⟨fun k k0 kn kne => ?_, fun k k0 kn kp i0 => ?_⟩
  · by_cases kj : k = j
    · subst kj
      rw [← hi, swapL_j hiL hjL, swapL_i hiL hjL (by omega)]
      exact le_of_less hl
    · rw [swapL_k hiL hjL kne kj]
      by_cases pj : (k - 1) / 2 = j
      · rw [pj, swapL_j hiL hjL]
        have := h.ch k k0 kn pj h0
        rw [← hi] at this; exact this
      · by_cases pi : (k - 1) / 2 = i
        · rw [pi, swapL_i hiL hjL (by omega)]
          have := h.ot k k0 kn kj
          rw [pi] at this
          exact le_trans' (le_of_less hl) this
        · rw [swapL_k hiL hjL pi pj]
          exact h.ot k k0 kn kj
  · rw [swapL_k hiL hjL (by omega : (i - 1) / 2 ≠ i) (by omega : (i - 1) / 2 ≠ j)]
    have hip := h.ot i i0 (by omega) (by omega)
    by_cases kj : k = j
    · rw [kj, swapL_j hiL hjL]; exact hip
    · rw [swapL_k hiL hjL (by omega) kj]
      have := h.ot k k0 kn kj
      rw [kp] at this
      exact le_trans' hip this
theorem UpI.done {j : Nat} (h : UpI L n j) (hd : j = 0 ∨ lessF (L.getD j Fl.zero) (L.getD ((j - 1) / 2) Fl.zero) = false) : HeapL L n := by
  intro k k0 kn
  by_cases kj : k = j
  · subst kj
    rcases hd with hd | hd
    · omega
    · exact hd
  · exact h.ot k k0 kn kj
theorem DownI.swap {i j : Nat} (h : DownI L n i) (hj0 : 0 < j) (hj : j < n) (hn : n ≤ L.length) (hp : (j - 1) / 2 = i) (hl : lessF (L.getD j Fl.zero) (L.getD i Fl.zero) = true)
    (hc : ∀ k, 0 < k → k < n → (k - 1) / 2 = i → lessF (L.getD k Fl.zero) (L.getD j Fl.zero) = false) : DownI (swapL L i j) n j := by
  have hij : i < j := by omega
  have hjL : j < L.length := by omega
  have hiL : i < L.length := by omega
  refine ⟨fun k k0 kn kne => ?_, fun k k0 kn kp j0 => ?_⟩
  · by_cases pi : (k - 1) / 2 = i
    · rw [pi, swapL_i hiL hjL (by omega)]
      by_cases kj : k = j
      · rw [kj, swapL_j hiL hjL]; exact le_of_less hl
      · rw [swapL_k hiL hjL (by omega) kj]; exact hc k k0 kn pi
    · rw [swapL_k hiL hjL pi kne]
      have kj : k ≠ j := fun e => pi (by rw [e]; exact hp)
      by_cases ki : k = i
      · subst ki
        rw [swapL_i hiL hjL (by omega)]
        exact h.ch j hj0 hj hp k0
      · rw [swapL_k hiL hjL ki kj]
        exact h.ot k k0 kn pi
  · rw [hp, swapL_i hiL hjL (by omega), swapL_k hiL hjL (by omega) (by omega)]
    have := h.ot k k0 kn (by omega)
    rw [kp] at this; exact this
theorem DownI.done {i : Nat} (h : DownI L n i) (hd : ∀ k, 0 < k → k < n → (k - 1) / 2 = i → lessF (L.getD k Fl.zero) (L.getD i Fl.zero) = false) : HeapL L n := by
  intro k k0 kn
  by_cases pi : (k - 1) / 2 = i
  · rw [pi]; exact hd k k0 kn pi
  · exact h.ot k k0 kn pi
theorem HeapL.down (h : HeapL L (n + 1)) (hn : n + 1 = L.length) : DownI (swapL L 0 n) n 0 := by
  have h0 : 0 < L.length := by omega
  have hnL : n < L.length := by omega
  refine ⟨fun k k0 kn kp => ?_, fun k k0 kn kp h => by omega⟩
  rw [swapL_k h0 hnL (by omega) (by omega), swapL_k h0 hnL kp (by omega)]
  exact h k k0 (by omega)
theorem HeapL.up (h : HeapL L L.length) (f : Fl) : UpI (L ++ [f]) (L.length + 1) L.length := by
  have e : ∀ k, k < L.length → (L ++ [f]).getD k Fl.zero = L.getD k Fl.zero := fun k hk => by simp [List.getD_eq_getElem?_getD, List.getElem?_append_left hk]
  refine ⟨fun k k0 kn kne => ?_, fun k k0 kn kp h => by omega⟩
  rw [e k (by omega), e _ (by omega)]
  exact h k k0 (by omega)
end
/- Which method a call through heap.Interface comes to. -/
section
variable {W : World} {nb : Nat} {v : Value}
theorem run_lv (h : W.cell? ⟨nb, 2, none⟩ = some v) (hv : ∃ a n c, v = .slice a n c) : (loadVar 26 ⟨nb, 2, none⟩).run Try.prog W = .ok v W := by
  obtain ⟨a, n, c, rfl⟩ := hv
  go_simp
theorem mLess (h : W.cell? ⟨nb, 2, none⟩ = some v) (hv : ∃ a n c, v = .slice a n c) : (method 189 54 (.pointer (some ⟨nb, 2, none⟩)) "Less").run Try.prog W = .ok (38, v) W := by
  have e : (method 189 54 (.pointer (some ⟨nb, 2, none⟩)) "Less").run Try.prog W = ((do let v ← loadVar 26 ⟨nb, 2, none⟩; pure (38, v) : Sem (FuncId × Value))).run Try.prog W := by kernel_rfl
  rw [e]
  simp only [Sem.run_bind, run_lv h hv, Result.andThen_ok, Sem.run_pure]
theorem mSwap (h : W.cell? ⟨nb, 2, none⟩ = some v) (hv : ∃ a n c, v = .slice a n c) : (method 189 54 (.pointer (some ⟨nb, 2, none⟩)) "Swap").run Try.prog W = .ok (39, v) W := by
  have e : (method 189 54 (.pointer (some ⟨nb, 2, none⟩)) "Swap").run Try.prog W = ((do let v ← loadVar 26 ⟨nb, 2, none⟩; pure (39, v) : Sem (FuncId × Value))).run Try.prog W := by kernel_rfl
  rw [e]
  simp only [Sem.run_bind, run_lv h hv, Result.andThen_ok, Sem.run_pure]
theorem mLen (h : W.cell? ⟨nb, 2, none⟩ = some v) (hv : ∃ a n c, v = .slice a n c) : (method 189 54 (.pointer (some ⟨nb, 2, none⟩)) "Len").run Try.prog W = .ok (14, v) W := by
  have e : (method 189 54 (.pointer (some ⟨nb, 2, none⟩)) "Len").run Try.prog W = ((do let v ← loadVar 26 ⟨nb, 2, none⟩; pure (14, v) : Sem (FuncId × Value))).run Try.prog W := by kernel_rfl
  rw [e]
  simp only [Sem.run_bind, run_lv h hv, Result.andThen_ok, Sem.run_pure]
theorem mPush (W : World) (nb : Nat) : (method 189 54 (.pointer (some ⟨nb, 2, none⟩)) "Push").run Try.prog W = .ok (43, .pointer (some ⟨nb, 2, none⟩)) W := by
  kernel_rfl
theorem mPop (W : World) (nb : Nat) : (method 189 54 (.pointer (some ⟨nb, 2, none⟩)) "Pop").run Try.prog W = .ok (42, .pointer (some ⟨nb, 2, none⟩)) W := by
  kernel_rfl
end
theorem NRow.sl {w : World} {base : Nat} {v : Value} {L : List Fl} (h : NRow w base v L) : ∃ a n c, v = .slice a n c := by obtain ⟨a, c, e, _⟩ := h.form; exact ⟨a, _, c, e⟩
end Go.Proofs.Ytfijidaohlnphaa
