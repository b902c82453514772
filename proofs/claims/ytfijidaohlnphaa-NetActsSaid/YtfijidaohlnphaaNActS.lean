/- NetActs: an item is taken out of the law's list. No conditions beyond those in each statement. -/
import Derived.Test.YtfijidaohlnphaaNActR
namespace Go.Proofs.Ytfijidaohlnphaa
open Go.RowKit
set_option linter.unusedVariables false
set_option linter.unusedSimpArgs false
set_option maxRecDepth 100000

theorem IRow.appQ {w : World} {base : Nat} {v : Value} {Q1 Q2 : List (Int × Int)} (h : IRow w base v Q1) (hl : Q1.length + Q2.length ≤ 1000) (hb : base ≤ w.heap.size) (ad : Addr) (c : Nat) (hc : ∀ j u, (cellsK itOne Q2)[j]? = some u → w.cell? (ad.add j) = some u) :
    ∃ v' w', (Builtin.append_ #[29, 29] 29 #[v, .slice (some ad) Q2.length c]).run Try.prog w = .ok v' w' ∧ IRow w' base v' (Q1 ++ Q2) ∧ w.grownBy w' v.ownBlock := by
  obtain ⟨i1, hi1, hz1, hz2, hz3⟩ := info_parts info_it
  obtain ⟨v', w', h1, h2, h3, _⟩ := run_append_own_at (P := Try.prog) (w := w) base 29 29 43 i1 _ 2 16 und_its hi1 hz1 hz2 hz3 rfl (by decide) v Q1.length (cellsK itOne Q1) h ad Q2.length c (cellsK itOne Q2) (cellsK_len itOne_len Q2) hc (cellsK_one itOne_one Q2) (by unfold maxLen; omega) (by omega) hb
  refine ⟨v', w', h1, ?_, h3⟩
  unfold IRow
  rw [cellsK_append, List.length_append]
  exact h2
theorem IRow.cellQ {w : World} {base g l c : Nat} {Q : List (Int × Int)} (h : IRow w base (.slice (some ⟨g, 0, none⟩) l c) Q) : ∀ j u, (cellsK itOne Q)[j]? = some u → w.cell? ⟨g, j, none⟩ = some u := fun j u hu => by
  have h1 := World.ownsRow.cells h (g := g) rfl j u hu
  rwa [Addr.add_lit, Nat.zero_add] at h1
theorem cells_take {Q : List (Int × Int)} {m j : Nat} {u : Value} (h : (cellsK itOne (Q.take m))[j]? = some u) : (cellsK itOne Q)[j]? = some u := by
  have e : cellsK itOne Q = cellsK itOne (Q.take m) ++ cellsK itOne (Q.drop m) := by rw [← cellsK_append, List.take_append_drop]
  rw [e, List.getElem?_append_left (List.getElem?_eq_some_iff.1 h).1]
  exact h
theorem cells_drop {Q : List (Int × Int)} {m j : Nat} {u : Value} (hm : m ≤ Q.length) (h : (cellsK itOne (Q.drop m))[j]? = some u) : (cellsK itOne Q)[m * 2 + j]? = some u := by
  have e : cellsK itOne Q = cellsK itOne (Q.take m) ++ cellsK itOne (Q.drop m) := by rw [← cellsK_append, List.take_append_drop]
  have hl : (cellsK itOne (Q.take m)).length = m * 2 := by rw [cellsK_len itOne_len, List.length_take]; omega
  rw [e, List.getElem?_append_right (by omega), hl, show m * 2 + j - m * 2 = j by omega]
  exact h
theorem run_slA (W : World) (g l c m : Nat) (h : m ≤ c) : (Instr.sliceAt 29 (.slice (some ⟨g, 0, none⟩) l c) none (some (.int .i64 (m : Int))) none).run Try.prog W = .ok (.slice (some ⟨g, 0, none⟩) m c) W := by
  have h0 : (0 : Int) ≤ (m : Int) := by omega
  have h1 : (m : Int) ≤ (c : Int) := by omega
  go_simp
theorem run_slB (g l c m : Nat) (h : m ≤ l) (hc : l ≤ c) : ∃ (ad : Addr) (c' : Nat), (∀ W : World, (Instr.sliceAt 29 (.slice (some ⟨g, 0, none⟩) l c) (some (.int .i64 (m : Int))) none none).run Try.prog W = .ok (.slice (some ad) (l - m) c') W) ∧ (l - m = 0 ∨ ad = ⟨g, m * 2, none⟩) := by
  have h0 : (0 : Int) ≤ (m : Int) := by omega
  have h1 : (m : Int) ≤ (l : Int) := by omega
  have h2 : (l : Int) ≤ (c : Int) := by omega
  by_cases e : c = m
  · have e2 : l = m := by omega
    subst e2
    subst e
    refine ⟨⟨g, 0, none⟩, 0, fun W => ?_, .inl (by omega)⟩
    go_simp
  · refine ⟨⟨g, m * 2, none⟩, c - m, fun W => ?_, .inr rfl⟩
    go_simp
theorem run_mk0 (W : World) : (Instr.buildSlice 29 0 #[]).run Try.prog W = .ok (.slice (some ⟨W.heap.size, 0, none⟩) 0 0) (W.alloc (.cells #[] 43)) := by go_simp
theorem run_add1 (W : World) (m : Nat) (hm : m ≤ 1000) (s1 s2 : Operand) : (do eqGuard .add 3 s1 s2 (.int .i64 (m : Int)) (.int .i64 1); binOp .add 3 (.int .i64 (m : Int)) (.int .i64 1) : Sem Value).run Try.prog W = .ok (.int .i64 ((m + 1 : Nat) : Int)) W := by
  have e : wrap64 ((m : Int) + 1) = ((m + 1 : Nat) : Int) := by rw [IntWalk.wrap64_in _ (by omega)]; push_cast; rfl
  go_simp
  exact IntWalk.i64_in _ (by omega)
/-- As the law of Invar6 with a last operation, but with the slots' values at the start. -/
theorem wp_region_inv_last0 {P : Program} {Q : Exit → Act → World → Prop} {l : List Oper} {id : Nat} {a0 : Act} {w0 : World} (N : Nat) (I : (Nat → Bool) → (Nat → Value) → World → Prop) (hm : P.follows .mixedOrders = true)
    (hN : l.length = N + 1) (hs : Region.sinkB .any l.toArray N = true) (hap : apartB l = true) (hb : backB l.toArray = true)
    (h0 : I (fun _ => false) (fun j => match l[j]? with | some o => slotOf a0 o | none => undef) w0.drew)
    (hstep : ∀ i o, i < N → l[i]? = some o → ∀ (b : Nat → Bool) (x : Nat → Value) (w : World), I b x w → b i = false → (∀ j, Region.waitsFor .any l.toArray i j = true → b j = true) →
      Step P l Q i (fun a' w' => ∃ v, a' = (putAll x l 0 a0).put o.dst v ∧ I (setB b i) (setX x i v) w') (putAll x l 0 a0) w)
    (hlast : ∀ o, l[N]? = some o → ∀ (b : Nat → Bool) (x : Nat → Value) (w : World), I b x w → (∀ i, i < N → b i = true) → Step P l Q N (fun a' w' => Q .normal a' w') (putAll x l 0 a0) w) :
    (Code.region id l.toArray true).wp P Q a0 w0 := by
  refine wp_region_any hm ?_
  have hx : putAll (fun j => match l[j]? with | some o => slotOf a0 o | none => undef) l 0 a0 = a0 :=
    putAll_self a0 l 0 _ (fun j o ho => by simp only [Nat.zero_add, ho])
  have hT : ∀ t, N ≤ t → t < l.toArray.size → (Array.replicate l.length false).getD t true = false := by
    intro t h1 h2
    have h3 : t < l.length := by simpa using h2
    simp [h3]
  have h := any_of_inv_last (P := P) (Q := Q) (a0 := a0) (N := N) I hN hs hap hb (fun i o hi ho b x w hI hbi hW => (hstep i o hi ho b x w hI hbi hW).out) (fun o ho b x w hI hA => (hlast o ho b x w hI hA).out)
    l.length (Array.replicate l.length false) (fun j => match l[j]? with | some o => slotOf a0 o | none => undef) w0.drew
    ⟨by simp, (fun j oj hj hl => by rw [getD_replicate_false] at hl; cases hl), hT⟩ (by simp) (by
      have e : (fun j => (Array.replicate l.length false).getD j false) = fun _ => false := by funext j; exact getD_replicate_false _ _
      rw [e]; exact h0)
  rw [hx] at h
  simpa using h
/-- What has run of the taking out. -/
def FOut (h0 g l c m : Nat) (v8 : Value) : Nat → Value → Prop
  | 0, x => x = .slice (some ⟨h0, 0, none⟩) 0 0
  | 1, x | 5, x => x = .slice (some ⟨g, 0, none⟩) l c
  | 2, x | 6, x => x = .int .i64 m
  | 3, x => x = .slice (some ⟨g, 0, none⟩) m c
  | 7, x => x = .int .i64 ((m + 1 : Nat) : Int)
  | 8, x => x = v8
  | _, _ => True
structure JOut (V : Value) (w0 : World) (Q : List (Int × Int)) (m : Nat) (b : Nat → Bool) (x : Nat → Value) (w : World) : Prop where
  pre : x 10 = V
  st : (b 0 = false ∧ b 4 = false ∧ b 9 = false ∧ w = w0) ∨ (b 0 = true ∧ b 4 = false ∧ b 9 = false ∧ w = w0.alloc (.cells #[] 43)) ∨
    (b 0 = true ∧ b 4 = true ∧ b 9 = false ∧ IRow w w0.heap.size (x 4) (Q.take m) ∧ Below w0.heap.size w0 w) ∨ (b 0 = true ∧ b 4 = true ∧ b 9 = true ∧ IRow w w0.heap.size (x 9) (Q.take m ++ Q.drop (m + 1)) ∧ Below w0.heap.size w0 w)
section
variable {V : Value} {w0 w : World} {Q : List (Int × Int)} {m : Nat} {b : Nat → Bool} {x : Nat → Value}
theorem JOut.pure (h : JOut V w0 Q m b x w) {k : Nat} {v : Value} (h0 : k ≠ 0) (h4 : k ≠ 4) (h9 : k ≠ 9) (h10 : k ≠ 10) : JOut V w0 Q m (setB b k) (setX x k v) w := by
  refine ⟨by rw [setX_ne (Ne.symm h10)]; exact h.pre, ?_⟩
  rw [setB_ne (Ne.symm h0), setB_ne (Ne.symm h4), setB_ne (Ne.symm h9), setX_ne (Ne.symm h4), setX_ne (Ne.symm h9)]
  exact h.st
theorem JOut.first (h : JOut V w0 Q m b x w) (hb : b 0 = false) : w = w0 ∧ ∀ v, JOut V w0 Q m (setB b 0) (setX x 0 v) (w.alloc (.cells #[] 43)) := by
  rcases h.st with ⟨_, h4, h9, rfl⟩ | ⟨h1, _⟩ | ⟨h1, _⟩ | ⟨h1, _⟩
  · exact ⟨rfl, fun v => ⟨by rw [setX_ne (by decide)]; exact h.pre, .inr (.inl ⟨setB_same _ _, by rw [setB_ne (by decide)]; exact h4, by rw [setB_ne (by decide)]; exact h9, rfl⟩)⟩⟩
  · rw [hb] at h1; cases h1
  · rw [hb] at h1; cases h1
  · rw [hb] at h1; cases h1
theorem grow_new {w w' : World} {h0 : Nat} {v : Value} (hg : w.grownBy w' v.ownBlock) {w0 : World} (hb : Below w0.heap.size w0 w) (ho : ∀ q, v.ownBlock = some q → w0.heap.size ≤ q) : Below w0.heap.size w0 w' := hb.grown hg hb.size ho
theorem JOut.app1 (h : JOut V w0 Q m b x w) (hb : b 4 = false) (h0 : b 0 = true) (hl : Q.length ≤ 900) (hm : m ≤ Q.length) {base g l c : Nat} (hrow : IRow w0 base (.slice (some ⟨g, 0, none⟩) l c) Q) :
    ∃ v' w', (∀ ty, ty = 29 → (Builtin.append_ #[29, 29] ty #[.slice (some ⟨w0.heap.size, 0, none⟩) 0 0, .slice (some ⟨g, 0, none⟩) m c]).run Try.prog w = .ok v' w') ∧ JOut V w0 Q m (setB b 4) (setX x 4 v') w' := by
  rcases h.st with ⟨h1, _⟩ | ⟨_, _, h9, rfl⟩ | ⟨_, h1, _⟩ | ⟨_, h1, _⟩
  · rw [h0] at h1; cases h1
  · have bA := (Below.refl w0.heap.size w0).alloc (Nat.le_refl _) (.cells #[] 43)
    have O1 : IRow (w0.alloc (.cells #[] 43)) w0.heap.size (.slice (some ⟨w0.heap.size, 0, none⟩) 0 0) [] :=
      World.ownsRow_made (base := w0.heap.size) (e := 43) (size := 2) w0 #[] 0 (Nat.le_refl _) (Nat.zero_le _) rfl
    have hr1 := hrow.below bA
    have htl : (Q.take m).length = m := by rw [List.length_take]; omega
    obtain ⟨v', w', e1, e2, e3⟩ := O1.appQ (Q2 := Q.take m) (by rw [htl]; simp; omega) (by simp) ⟨g, 0, none⟩ c (fun j u hu => by
      rw [show (⟨g, 0, none⟩ : Addr).add j = ⟨g, j, none⟩ by rw [Addr.add_lit, Nat.zero_add]]
      exact hr1.cellQ j u (cells_take hu))
    rw [htl] at e1
    rw [List.nil_append] at e2
    refine ⟨v', w', (fun ty e => by rw [e]; exact e1), ⟨by rw [setX_ne (by decide)]; exact h.pre, .inr (.inr (.inl ⟨setB_up h0, setB_same _ _, by rw [setB_ne (by decide)]; exact h9, by rw [setX_same]; exact e2, bA.grown e3 bA.size fun q hq => ?_⟩))⟩⟩
    simp [Value.ownBlock] at hq; omega
  · rw [hb] at h1; cases h1
  · rw [hb] at h1; cases h1
theorem JOut.app2 (h : JOut V w0 Q m b x w) (hb : b 9 = false) (h4 : b 4 = true) (hl : Q.length ≤ 900) (hm : m + 1 ≤ Q.length) {base g l c : Nat} (hrow : IRow w0 base (.slice (some ⟨g, 0, none⟩) l c) Q) (ad : Addr) (c' : Nat) (had : Q.length - (m + 1) = 0 ∨ ad = ⟨g, (m + 1) * 2, none⟩) :
    ∃ v' w', (∀ ty, ty = 29 → (Builtin.append_ #[29, 29] ty #[x 4, .slice (some ad) (Q.length - (m + 1)) c']).run Try.prog w = .ok v' w') ∧ JOut V w0 Q m (setB b 9) (setX x 9 v') w' := by
  rcases h.st with ⟨_, h1, _⟩ | ⟨_, h1, _⟩ | ⟨h0, _, h9, hrow1, hbel⟩ | ⟨_, _, h1, _⟩
  · rw [h4] at h1; cases h1
  · rw [h4] at h1; cases h1
  · have hr1 := hrow.below hbel
    have hdl : (Q.drop (m + 1)).length = Q.length - (m + 1) := List.length_drop
    have hg : g < w0.heap.size := by obtain ⟨_, cs, hcs⟩ := hrow.block g rfl; exact lt_of_block hcs
    obtain ⟨v', w', e1, e2, e3⟩ := hrow1.appQ (Q2 := Q.drop (m + 1)) (by rw [hdl, List.length_take]; omega) hbel.size ad c' (fun j u hu => by
      have hj : j < (Q.length - (m + 1)) * 2 := by
        have := (List.getElem?_eq_some_iff.1 hu).1
        rwa [cellsK_len itOne_len, hdl] at this
      rcases had with e | e
      · omega
      · rw [e, show (⟨g, (m + 1) * 2, none⟩ : Addr).add j = ⟨g, (m + 1) * 2 + j, none⟩ by rw [Addr.add_lit]]
        exact hr1.cellQ _ u (cells_drop hm hu))
    rw [hdl] at e1
    refine ⟨v', w', (fun ty e => by rw [e]; exact e1), ⟨by rw [setX_ne (by decide)]; exact h.pre, .inr (.inr (.inr ⟨setB_up h0, setB_up h4, setB_same _ _, by rw [setX_same]; exact e2, hbel.grown e3 hbel.size fun q hq => (hrow1.block q hq).1⟩))⟩⟩
  · rw [hb] at h1; cases h1
theorem JOut.done (h : JOut V w0 Q m b x w) (h9 : b 9 = true) : IRow w w0.heap.size (x 9) (Q.take m ++ Q.drop (m + 1)) ∧ Below w0.heap.size w0 w := by
  rcases h.st with ⟨_, _, h1, _⟩ | ⟨_, _, h1, _⟩ | ⟨_, _, h1, _⟩ | ⟨_, _, _, h2⟩
  · rw [h9] at h1; cases h1
  · rw [h9] at h1; cases h1
  · rw [h9] at h1; cases h1
  · exact h2
end
theorem IRow.less {w : World} {base base' : Nat} {v : Value} {Q : List (Int × Int)} (h : IRow w base v Q) (hb : base' ≤ base) : IRow w base' v Q := by
  refine ⟨h.1, h.2.imp id ?_⟩
  rintro ⟨g, c, cur, h1, h3, h4⟩
  exact ⟨g, c, cur, h1, by omega, h4⟩
end Go.Proofs.Ytfijidaohlnphaa
