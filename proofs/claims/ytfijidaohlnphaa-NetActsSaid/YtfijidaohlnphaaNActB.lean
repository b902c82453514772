/- NetActs: the items that the law keeps, and which of them is due first. No conditions beyond those in each statement. -/
import Derived.Test.YtfijidaohlnphaaNArgs
namespace Go.Proofs.Ytfijidaohlnphaa
open Go.RowKit
set_option linter.unusedVariables false
set_option linter.unusedSimpArgs false
set_option maxRecDepth 100000

theorem info_it : (Try.prog.info? 43).map (fun i => (i.zero, i.size, i.bytes)) = some (some (.agg #[.int .i64 0, .int .i64 0]), 2, 16) := by kernel_rfl
theorem und_its : Try.prog.underlying 29 = some (.slice 43) := by kernel_rfl
def itOne (q : Int × Int) : List Value := [.int .i64 q.1, .int .i64 q.2]
theorem itOne_len (x : Int × Int) : (itOne x).length = 2 := rfl
theorem itOne_one (x : Int × Int) : ∀ v ∈ itOne x, v.oneCell' = true := by
  intro v hv
  simp only [itOne, List.mem_cons, List.not_mem_nil, or_false] at hv
  rcases hv with rfl | rfl <;> rfl
/-- The law's own list of items. -/
def IRow (w : World) (base : Nat) (v : Value) (Q : List (Int × Int)) : Prop := w.ownsRow base 43 2 v Q.length (cellsK itOne Q)
section
variable {w w' : World} {base : Nat} {v : Value} {Q : List (Int × Int)}
theorem IRow.same (h : IRow w base v Q) (hk : ∀ g cs fz, v.ownBlock = some g → w.heap[g]? = some (.cells cs 43 fz) → w'.heap[g]? = w.heap[g]?) : IRow w' base v Q := by
  refine ⟨h.1, h.2.imp id ?_⟩
  rintro ⟨g, c, cur, rfl, h1, h2, h3⟩
  exact ⟨g, c, cur, rfl, h1, (hk g _ _ rfl h2).trans h2, h3⟩
theorem IRow.below (h : IRow w base v Q) (hb : Below w.heap.size w w') : IRow w' base v Q := h.same fun g cs fz _ hg => hb.block g (lt_of_block hg)
theorem IRow.keepT (h : IRow w base v Q) (hk : KeepT w w') : IRow w' base v Q := h.same fun g cs fz _ hg => hk g _ _ _ hg (by decide) (by decide)
theorem IRow.nil (w : World) (base : Nat) : IRow w base (.slice none 0 0) [] := World.ownsRow_nil _ _ _ _
theorem IRow.block (h : IRow w base v Q) (q : Nat) (hq : v.ownBlock = some q) : base ≤ q ∧ ∃ cs, w.heap[q]? = some (.cells cs 43 (0, 0)) := by
  rcases h.2 with ⟨rfl, _⟩ | ⟨g, c, cur, rfl, hb, hg, _⟩
  · simp [Value.ownBlock] at hq
  · simp [Value.ownBlock] at hq; subst hq; exact ⟨hb, cur, hg⟩
theorem IRow.form (h : IRow w base v Q) : ∃ a c, v = .slice a Q.length c ∧ Q.length ≤ c ∧ (0 < Q.length → ∃ g, a = some ⟨g, 0, none⟩ ∧ g < w.heap.size ∧ ∀ j, j < Q.length → w.cell? ⟨g, j * 2, none⟩ = some (.int .i64 (Q.getD j (0, 0)).1) ∧ w.cell? ⟨g, j * 2 + 1, none⟩ = some (.int .i64 (Q.getD j (0, 0)).2)) := by
  rcases h.2 with ⟨rfl, h0⟩ | ⟨g, c, cur, rfl, hb, hg, hc, _⟩
  · exact ⟨none, 0, by rw [h0], by omega, fun h => by omega⟩
  · refine ⟨_, c, rfl, hc, fun _ => ⟨g, rfl, lt_of_block hg, fun j hj => ?_⟩⟩
    have hq : Q[j]? = some (Q.getD j (0, 0)) := by simp [List.getD_eq_getElem?_getD, hj]
    have h0 := h.cells (g := g) rfl (j * 2 + 0) _ ((cellsK_at (one := itOne) (k := 2) itOne_len Q j 0 _ hq (by decide)).trans rfl)
    have h1 := h.cells (g := g) rfl (j * 2 + 1) _ ((cellsK_at (one := itOne) (k := 2) itOne_len Q j 1 _ hq (by decide)).trans rfl)
    rw [Addr.add_lit, Nat.zero_add] at h0 h1
    exact ⟨h0, h1⟩
theorem IRow.push (h : IRow w base v Q) (hl : Q.length ≤ 1000) (hb : base ≤ w.heap.size) (q : Int × Int) {b : Nat} (hc : w.heap[b]? = some (.cells #[.int .i64 q.1, .int .i64 q.2] 43 (0, 0))) (c : Nat) :
    ∃ v' w', (Builtin.append_ #[29, 29] 29 #[v, .slice (some ⟨b, 0, none⟩) 1 c]).run Try.prog w = .ok v' w' ∧ IRow w' base v' (Q ++ [q]) ∧ w.grownBy w' v.ownBlock := by
  obtain ⟨i1, hi1, hz1, hz2, hz3⟩ := info_parts info_it
  obtain ⟨v', w', h1, h2, h3, _⟩ := run_append_own_at (P := Try.prog) (w := w) base 29 29 43 i1 _ 2 16 und_its hi1 hz1 hz2 hz3 rfl (by decide) v Q.length (cellsK itOne Q) h ⟨b, 0, none⟩ 1 c (itOne q) rfl (fun j u hu => by
    rw [show (⟨b, 0, none⟩ : Addr).add j = ⟨b, j, none⟩ by rw [Addr.add_lit, Nat.zero_add]]
    simp only [World.cell?, hc]
    simpa [itOne] using hu) (itOne_one q) (by unfold maxLen; omega) (by omega) hb
  refine ⟨v', w', h1, ?_, h3⟩
  unfold IRow
  rw [cellsK_append, show cellsK itOne [q] = itOne q by simp [cellsK], List.length_append]
  exact h2
end
/-- What the law's search has found among the first k. -/
def BestI (Q : List (Int × Int)) (now : Int) (k : Nat) (b : Int) : Prop :=
  (b = -1 ∧ ∀ j, j < k → now < (Q.getD j (0, 0)).1) ∨ ∃ m : Nat, b = (m : Int) ∧ m < k ∧ (Q.getD m (0, 0)).1 ≤ now ∧ (∀ j, j < m → (Q.getD m (0, 0)).1 < (Q.getD j (0, 0)).1) ∧ ∀ j, j < k → (Q.getD m (0, 0)).1 ≤ (Q.getD j (0, 0)).1
section
variable {Q : List (Int × Int)} {now b : Int} {k : Nat}
theorem BestI.start : BestI Q now 0 (-1) := .inl ⟨rfl, fun j hj => absurd hj (Nat.not_lt_zero _)⟩
theorem BestI.later (h : BestI Q now k b) (hd : now < (Q.getD k (0, 0)).1) : BestI Q now (k + 1) b := by
  rcases h with ⟨rfl, h⟩ | ⟨m, rfl, h1, h2, h3, h4⟩
  · refine .inl ⟨rfl, fun j hj => ?_⟩
    by_cases e : j = k
    · subst e; exact hd
    · exact h j (by omega)
  · refine .inr ⟨m, rfl, by omega, h2, h3, fun j hj => ?_⟩
    by_cases e : j = k
    · subst e; omega
    · exact h4 j (by omega)
theorem BestI.first (h : BestI Q now k (-1)) (hd : (Q.getD k (0, 0)).1 ≤ now) : BestI Q now (k + 1) k := by
  rcases h with ⟨_, h⟩ | ⟨m, e, _⟩
  · refine .inr ⟨k, rfl, by omega, hd, fun j hj => by have := h j hj; omega, fun j hj => ?_⟩
    by_cases e : j = k
    · subst e; exact Int.le_refl _
    · have := h j (by omega); omega
  · omega
theorem BestI.less {m : Nat} (h : BestI Q now k m) (hd : (Q.getD k (0, 0)).1 ≤ now) (hl : (Q.getD k (0, 0)).1 < (Q.getD m (0, 0)).1) : BestI Q now (k + 1) k := by
  rcases h with ⟨e, _⟩ | ⟨m', e, h1, h2, h3, h4⟩
  · omega
  · obtain rfl : m = m' := by omega
    refine .inr ⟨k, rfl, by omega, hd, fun j hj => by have := h4 j hj; omega, fun j hj => ?_⟩
    by_cases e : j = k
    · subst e; exact Int.le_refl _
    · have := h4 j (by omega); omega
theorem BestI.stays {m : Nat} (h : BestI Q now k m) (hl : ¬ (Q.getD k (0, 0)).1 < (Q.getD m (0, 0)).1) : BestI Q now (k + 1) m := by
  rcases h with ⟨e, _⟩ | ⟨m', e, h1, h2, h3, h4⟩
  · omega
  · obtain rfl : m = m' := by omega
    refine .inr ⟨m, rfl, by omega, h2, h3, fun j hj => ?_⟩
    by_cases e : j = k
    · subst e; omega
    · exact h4 j (by omega)
end
def keyF (f : Fl) : Int × Int := (f.due, f.m.ix)
theorem key_at {F : List Fl} {j : Nat} (hj : j < F.length) : (F.map keyF).getD j (0, 0) = keyF F[j] := by simp [List.getD_eq_getElem?_getD, hj]
/-- Nothing is due. -/
theorem best_none {F : List Fl} {now : Int} (h : BestI (F.map keyF) now F.length (-1)) : ∀ f ∈ F, now < f.due := by
  intro f hf
  obtain ⟨j, hj, rfl⟩ := List.getElem_of_mem hf
  rcases h with ⟨_, h⟩ | ⟨m, e, _⟩
  · have := h j hj; rw [key_at hj] at this; exact this
  · omega
theorem best_some {F : List Fl} {now : Int} {m : Nat} (h : BestI (F.map keyF) now F.length m) : ∃ hm : m < F.length, F = F.take m ++ F[m] :: F.drop (m + 1) ∧ F[m].due ≤ now ∧ (∀ g ∈ F.take m, F[m].due < g.due) ∧ ∀ g ∈ F.drop (m + 1), F[m].due ≤ g.due := by
  rcases h with ⟨e, _⟩ | ⟨m', e, h1, h2, h3, h4⟩
  · omega
  · obtain rfl : m = m' := by omega
    rw [key_at h1] at h2 h3 h4
    refine ⟨h1, by simp, h2, fun g hg => ?_, fun g hg => ?_⟩
    · obtain ⟨j, hj, rfl⟩ := List.getElem_of_mem hg
      rw [List.length_take] at hj
      have := h3 j (by omega)
      rw [key_at (by omega : j < F.length)] at this
      rw [List.getElem_take]; exact this
    · obtain ⟨j, hj, rfl⟩ := List.getElem_of_mem hg
      rw [List.length_drop] at hj
      have := h4 (m + 1 + j) (by omega)
      rw [key_at (by omega : m + 1 + j < F.length)] at this
      rw [List.getElem_drop]; exact this
def kind6 (z : Int) : Nat := (z % 18446744073709551616 % 6).toNat
theorem kind6_lt (z : Int) : kind6 z < 6 := by unfold kind6; omega
theorem kind6_form (k : Int) : wrap64 ((IntKind.u64.wrap k).tmod 6) = (kind6 k : Int) := by
  rw [IntKind.wrap_u64, Int.tmod_eq_emod_of_nonneg (by omega), IntWalk.wrap64_in _ (by omega)]
  unfold kind6
  omega
end Go.Proofs.Ytfijidaohlnphaa
