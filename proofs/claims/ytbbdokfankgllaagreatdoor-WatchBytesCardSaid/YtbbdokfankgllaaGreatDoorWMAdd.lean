/- The model's Add. No conditions beyond those in each statement. -/
import Derived.Test.YtbbdokfankgllaaGreatDoorWModA
import Derived.Lib.AppendZeros
import Derived.Laws.OwnMore
import Derived.ArgAppend
namespace Go.Proofs.YtbbdokfankgllaaGreatDoor
open Go.RowKit Go.Maps
set_option linter.unusedVariables false
set_option linter.unusedSimpArgs false
set_option maxRecDepth 100000

theorem eq_wa (a b : Wa) (B : Bool) (hB : B = true ↔ a = b) (W : World) : (binOp .eql 49 (waV a) (waV b)).run Tryz.prog W = .ok (.bool B) W := by
  obtain ⟨s, p, k, o⟩ := a
  obtain ⟨s', p', k', o'⟩ := b
  have hF : ¬ ((⟨s, p, k, o⟩ : Wa) = ⟨s', p', k', o'⟩) → B = false := fun h => by rw [← Bool.not_eq_true, hB]; exact h
  unfold waV
  by_cases h1 : s = s'
  · by_cases h2 : p = p'
    · by_cases h3 : k = k'
      · by_cases h4 : o = o'
        · subst h1 h2 h3 h4
          rw [hB.2 rfl]
          simp [go_sem]
        · subst h1 h2 h3
          rw [hF (fun e => h4 (Wa.mk.inj e).2.2.2)]
          simp [go_sem, h4]
      · subst h1 h2
        rw [hF (fun e => h3 (Wa.mk.inj e).2.2.1)]
        simp [go_sem, h3]
    · have h2' : (p.toList == p'.toList) = false := by
        rw [beq_eq_false_iff_ne, ByteArray.toList_eq, ByteArray.toList_eq]
        exact fun e => h2 (ByteArray.ext (Array.toList_inj.1 e))
      subst h1
      rw [hF (fun e => h2 (Wa.mk.inj e).2.1)]
      simp [go_sem, h2']
  · rw [hF (fun e => h1 (Wa.mk.inj e).1)]
    simp [go_sem, h1]
section
variable {P : Program} {Q : Exit → Act → World → Prop} {l : List Oper}
theorem gstep_slice3 {i : Nat} {o : Oper} {a : Act} {w : World} {K : Act → World → Prop} (ho : l[i]? = some o) (hw : WantedIs l a o true) (t : TypeId) (s y z : Operand) (hop : o.op = .slice t s none (some y) (some z)) (v u x : Value) (he : a.eval s = v) (hy : a.eval y = u) (hz : a.eval z = x) (v' : Value)
    (hr : (Instr.sliceAt t v none (some u) (some x)).run P w = .ok v' w) (h : K (a.put o.dst v') w) : Step P l Q i K a w :=
  gstep_value ho hw v' w (by simp only [execOp, hop, Option.map_some, Option.map_none, he, hy, hz, Sem.run_bind, Sem.run_pure, hr, Result.andThen_ok]) h
theorem gstep_app {i : Nat} {o : Oper} {a : Act} {w : World} {K : Act → World → Prop} (ho : l[i]? = some o) (hw : WantedIs l a o true) (s y : Operand) (t : TypeId) (hop : o.op = .call { callee := .builtin .append, args := #[s, y], argTypes := #[t, t] }) (v u : Value) (he : a.eval s = v) (hy : a.eval y = u) (v' : Value) (w' : World)
    (hr : (Builtin.append_ #[t, t] o.type #[v, u]).run P w = .ok v' w') (h : K (a.put o.dst v') w') : Step P l Q i K a w := by
  refine gstep_value ho hw v' w' ?_ h
  simp only [execOp, hop, resolve, invoke, builtin, Sem.run_bind, Sem.run_pure, Result.andThen_ok, List.map_toArray, List.map_cons, List.map_nil, he, hy, hr]
theorem wpList_slice_run {w : World} {ops : Array Oper} {rest : List Oper} {o : Oper} {a : Act} {t : TypeId} {x y : Operand} {v u v' : Value} (hr : (Instr.sliceAt t v (some u) none none).run P w = .ok v' w) (hgd : o.guard = none) (ho : o.op = .slice t x (some y) none none) (hx : a.eval x = v) (hy : a.eval y = u)
    (h : wpList P ops Q rest (a.put o.dst v') w) : wpList P ops Q (o :: rest) a w :=
  wpList_plain hgd fun _ hK => by
    unfold Oper.wp execOp
    simp only [ho, hx, hy, Option.map_some, Option.map_none, Sem.run_bind, Sem.run_pure, Result.andThen_ok, hr]
    exact hK _ _ h
end
theorem run_cut3w (W : World) (a : Option Addr) (n c j : Nat) (h : j ≤ n) (hn : n ≤ c ∧ n ≤ 1000) (ha : a = none → n = 0 ∧ c = 0) : (Instr.sliceAt 28 (.slice a n c) none (some (.int .i64 (j : Int))) (some (.int .i64 (j : Int)))).run Tryz.prog W = .ok (.slice a j j) W := by
  have h1 : (j : Int) ≤ (c : Int) := by omega
  have h0 : (0 : Int) ≤ (j : Int) := by omega
  cases a with
  | none =>
    obtain ⟨rfl, rfl⟩ := ha rfl
    obtain rfl : j = 0 := by omega
    go_simp
  | some b => go_simp
theorem run_tailw (g n c q : Nat) (h : q ≤ n) (hn : n ≤ c ∧ n ≤ 1000) : ∃ ad c2, (∀ W : World, (Instr.sliceAt 28 (.slice (some ⟨g, 0, none⟩) n c) (some (.int .i64 (q : Int))) none none).run Tryz.prog W = .ok (.slice (some ad) (n - q) c2) W) ∧ (ad = ⟨g, q * 4, none⟩ ∨ n - q = 0) := by
  have h1 : (q : Int) ≤ (n : Int) := by omega
  have h0 : (0 : Int) ≤ (q : Int) := by omega
  by_cases hc : q = c
  · refine ⟨⟨g, 0, none⟩, 0, fun W => ?_, .inr (by omega)⟩
    have hnq : n = q := by omega
    subst hnq hc
    go_simp
  · have hc2 : ¬ c = q := fun e => hc e.symm
    have h3 : q < c := by omega
    refine ⟨⟨g, q * 4, none⟩, c - q, fun W => ?_, .inl rfl⟩
    go_simp
theorem run_tail0 (W : World) : (Instr.sliceAt 28 (.slice none 0 0) (some (.int .i64 ((0 : Nat) : Int))) none none).run Tryz.prog W = .ok (.slice none 0 0) W := by go_simp
theorem wa_read {w : World} {base g c : Nat} {L : List Wa} (h : WRow w base (.slice (some ⟨g, 0, none⟩) L.length c) L) (q : Nat) (u : Value) (hu : (cellsK waOne L)[q]? = some u) : w.cell? ((⟨g, 0, none⟩ : Addr).add q) = some u := World.ownsRow.cells h (g := g) rfl q u hu
theorem waAll_one (L : List Wa) : ∀ v ∈ cellsK waOne L, v.oneCell' = true := by
  intro v hv
  unfold cellsK at hv
  obtain ⟨x, _, hx⟩ := List.mem_flatMap.1 hv
  exact waOne_one x v hx
/-- A row's front, with a watch behind it: in a new block. -/
theorem app_front (ty : TypeId) (W : World) (base : Nat) (a : Option Addr) (c : Nat) (L : List Wa) (h : WRow W base (.slice a L.length c) L) (j : Nat) (hj : j ≤ L.length) (hl : L.length ≤ 1000) (x : Wa) (vb : Nat) (hx : WaB W vb x) :
    ∃ v' w', (Builtin.append_ #[28, 28] ty #[.slice a j j, .slice (some ⟨vb, 0, none⟩) 1 1]).run Tryz.prog W = .ok v' w' ∧ WRow w' W.heap.size v' (L.take j ++ [x]) ∧ W.grownBy w' none := by
  obtain ⟨i1, hi1, hz1, hz2, hz3⟩ := info_parts info_wa
  have hlt : (cellsK waOne (L.take j)).length = j * 4 := by rw [cellsK_len waOne_len, List.length_take, Nat.min_eq_left hj]
  have e1 : cellsK waOne (L.take j ++ [x]) = cellsK waOne (L.take j) ++ waOne x := by rw [cellsK_append]; simp [cellsK]
  have e2 : (L.take j ++ [x]).length = j + 1 := by rw [List.length_append, List.length_take, Nat.min_eq_left hj]; rfl
  unfold WRow
  rw [e1, e2]
  cases a with
  | some b =>
    have hg : ∃ g, b = ⟨g, 0, none⟩ := by
      rcases h.2 with ⟨h0, _⟩ | ⟨g, cap, cur, h0, _⟩
      · cases h0
      · injection h0 with h0; exact ⟨g, Option.some.inj h0⟩
    obtain ⟨g, rfl⟩ := hg
    exact run_append_arg_grows (P := Tryz.prog) W 28 ty 49 i1 _ 4 32 und_was hi1 hz1 hz2 hz3 rfl (by decide) ⟨g, 0, none⟩ j j (cellsK waOne (L.take j)) hlt (fun q u hu => by
      refine wa_read h q u ?_
      have hq := (List.getElem?_eq_some_iff.1 hu).1
      have := cellsK_take waOne_len L j
      rw [← this, List.getElem?_take] at hu
      split at hu
      · exact hu
      · cases hu) ⟨vb, 0, none⟩ 1 1 (waOne x) rfl (fun q u hu => wa_cells x vb W hx q u hu) (by omega) (by unfold maxLen; omega) (by omega)
  | none =>
    have h0 : L.length = 0 := by
      rcases h.2 with ⟨_, h1⟩ | ⟨g, cap, cur, h0, _⟩
      · exact h1
      · cases h0
    obtain rfl : j = 0 := by omega
    obtain ⟨v', w', h1, h2, h3, _⟩ := run_append_own (P := Tryz.prog) W W.heap.size 28 ty 49 i1 _ 4 32 und_was hi1 hz1 hz2 hz3 rfl (by decide) (.slice none 0 0) 0 [] (World.ownsRow_nil W _ _ 4) ⟨vb, 0, none⟩ 1 1 (waOne x) rfl (fun q u hu => wa_cells x vb W hx q u hu) (waOne_one x) (by unfold maxLen; omega) (by omega) (Nat.le_refl _)
    exact ⟨v', w', h1, by simpa [cellsK] using h2, h3⟩
/-- A row's end, behind a row of one's own. -/
theorem app_tail (ty : TypeId) (W : World) (b1 base : Nat) (v0 : Value) (M : List Wa) (hM : WRow W b1 v0 M) (v : Value) (L : List Wa) (h : WRow W base v L) (j : Nat) (hj : j ≤ L.length) (hl : L.length ≤ 1000 ∧ M.length ≤ 1000) (hb : b1 ≤ W.heap.size) :
    ∃ v47, (∀ W' : World, (Instr.sliceAt 28 v (some (.int .i64 (j : Int))) none none).run Tryz.prog W' = .ok v47 W') ∧ ∃ v' w', (Builtin.append_ #[28, 28] ty #[v0, v47]).run Tryz.prog W = .ok v' w' ∧ WRow w' b1 v' (M ++ L.drop j) ∧ W.grownBy w' v0.ownBlock := by
  obtain ⟨i1, hi1, hz1, hz2, hz3⟩ := info_parts info_wa
  have e1 : cellsK waOne (M ++ L.drop j) = cellsK waOne M ++ cellsK waOne (L.drop j) := cellsK_append _ _
  have e2 : (M ++ L.drop j).length = M.length + (L.length - j) := by rw [List.length_append, List.length_drop]
  unfold WRow
  rw [e1, e2]
  rcases h.2 with ⟨rfl, h0⟩ | ⟨g, cap, cur, rfl, hbg, hg, hnc, hcm, hcs, htk⟩
  · obtain rfl : j = 0 := by omega
    have hL : L = [] := List.eq_nil_of_length_eq_zero h0
    subst hL
    refine ⟨_, run_tail0, v0, W, run_append_owned_none (P := Tryz.prog) (w := W) b1 28 ty 49 i1 4 und_was hi1 v0 M.length (cellsK waOne M) hM, by have := hM; unfold WRow at this; simpa [cellsK] using this, ⟨rfl, rfl, rfl, Nat.le_refl _, fun _ _ _ => rfl⟩⟩
  · obtain ⟨ad, c2, hs, hor⟩ := run_tailw g L.length cap j hj ⟨hnc, hl.1⟩
    have hld : (cellsK waOne (L.drop j)).length = (L.length - j) * 4 := by rw [cellsK_len waOne_len, List.length_drop]
    have hcell : ∀ q u, (cellsK waOne (L.drop j))[q]? = some u → W.cell? (ad.add q) = some u := fun q u hu => by
      rcases hor with rfl | h0
      · have hd := cellsK_drop waOne_len L j
        rw [← hd, List.getElem?_drop] at hu
        have := wa_read h _ u hu
        rw [Addr.add_lit, Nat.zero_add] at this
        rw [Addr.add_lit]; exact this
      · have := (List.getElem?_eq_some_iff.1 hu).1
        rw [hld, h0] at this; omega
    obtain ⟨v', w', r1, r2, r3, _⟩ := run_append_own (P := Tryz.prog) W b1 28 ty 49 i1 _ 4 32 und_was hi1 hz1 hz2 hz3 rfl (by decide) v0 M.length (cellsK waOne M) hM ad (L.length - j) c2 (cellsK waOne (L.drop j)) hld hcell (waAll_one _) (by unfold maxLen; omega) (by omega) hb
    exact ⟨_, hs, v', w', r1, r2, r3⟩
/-- A whole row behind a row of one's own. -/
theorem app_row (ty : TypeId) (W : World) (b1 base : Nat) (v0 : Value) (M : List Wa) (hM : WRow W b1 v0 M) (v : Value) (R : List Wa) (h : WRow W base v R) (hl : R.length ≤ 1000 ∧ M.length ≤ 1000) (hb : b1 ≤ W.heap.size) :
    ∃ v' w', (Builtin.append_ #[28, 28] ty #[v0, v]).run Tryz.prog W = .ok v' w' ∧ WRow w' b1 v' (M ++ R) ∧ W.grownBy w' v0.ownBlock := by
  obtain ⟨i1, hi1, hz1, hz2, hz3⟩ := info_parts info_wa
  have e1 : cellsK waOne (M ++ R) = cellsK waOne M ++ cellsK waOne R := cellsK_append _ _
  unfold WRow
  rw [e1, List.length_append]
  rcases h.2 with ⟨rfl, h0⟩ | ⟨g, cap, cur, rfl, hbg, hg, hnc, hcm, hcs, htk⟩
  · have hL : R = [] := List.eq_nil_of_length_eq_zero h0
    subst hL
    exact ⟨v0, W, run_append_owned_none (P := Tryz.prog) (w := W) b1 28 ty 49 i1 4 und_was hi1 v0 M.length (cellsK waOne M) hM, by have := hM; unfold WRow at this; simpa [cellsK] using this, ⟨rfl, rfl, rfl, Nat.le_refl _, fun _ _ _ => rfl⟩⟩
  · obtain ⟨v', w', r1, r2, r3, _⟩ := run_append_own (P := Tryz.prog) W b1 28 ty 49 i1 _ 4 32 und_was hi1 hz1 hz2 hz3 rfl (by decide) v0 M.length (cellsK waOne M) hM ⟨g, 0, none⟩ R.length cap (cellsK waOne R) (cellsK_len waOne_len R) (fun q u hu => wa_read h q u hu) (waAll_one _) (by unfold maxLen; omega) (by omega) hb
    exact ⟨v', w', r1, r2, r3⟩
theorem run_moF0 (W : World) (b : Nat) : (Instr.fieldAt 32 (.pointer (some ⟨b, 0, none⟩)) 0).run Tryz.prog W = .ok (.pointer (some ⟨b, 0, none⟩)) W := by go_simp
theorem run_moF1 (W : World) (b : Nat) : (Instr.fieldAt 32 (.pointer (some ⟨b, 0, none⟩)) 1).run Tryz.prog W = .ok (.pointer (some ⟨b, 1, none⟩)) W := by go_simp
/-- The region that puts a watch in. -/
def FMa (mb j : Nat) (wa : Option Addr) (n c : Nat) (x : Wa) (vr : Value) : Nat → Value → Prop
  | 0, v => v = .pointer (some ⟨mb, 0, none⟩)
  | 1, v => v = .pointer (some ⟨mb, 0, none⟩)
  | 2, v => v = .pointer (some ⟨mb, 0, none⟩)
  | 3, v => v = .pointer (some ⟨mb, 0, none⟩)
  | 4, v => v = .slice wa n c
  | 5, v => v = .int .i64 (j : Int)
  | 6, v => v = .int .i64 (j : Int)
  | 7, v => v = .slice wa j j
  | 8, v => v = waV x
  | 11, v => v = vr
  | 13, v => v = .pointer (some ⟨mb, 0, none⟩)
  | 14, v => v = .pointer (some ⟨mb, 0, none⟩)
  | _, _ => True
/-- What has run of it. -/
structure JMa (wd : World) (L : List Wa) (j : Nat) (xx : Wa) (b : Nat → Bool) (x : Nat → Value) (w : World) : Prop where
  bel : Below wd.heap.size wd w
  up : (b 12 = true → b 10 = true) ∧ (b 10 = true → b 9 = true)
  r9 : b 9 = true → b 10 = false → ∃ vb, x 9 = .slice (some ⟨vb, 0, none⟩) 1 1 ∧ WaB w vb xx
  r10 : b 10 = true → b 12 = false → WRow w wd.heap.size (x 10) (L.take j ++ [xx])
  r12 : b 12 = true → WRow w wd.heap.size (x 12) (L.take j ++ xx :: L.drop j)
section
variable {wd w w' : World} {L : List Wa} {j : Nat} {xx : Wa} {b : Nat → Bool} {x : Nat → Value}
theorem JMa.pure {i : Nat} {v : Value} (h : JMa wd L j xx b x w) (hi : ¬ 9 = i ∧ ¬ 10 = i ∧ ¬ 12 = i) : JMa wd L j xx (setB b i) (setX x i v) w := by
  obtain ⟨h1, h2, h3⟩ := hi
  refine ⟨h.bel, ?_, ?_, ?_, ?_⟩
  · rw [setB_ne h1, setB_ne h2, setB_ne h3]; exact h.up
  · rw [setB_ne h1, setB_ne h2, setX_ne h1]; exact h.r9
  · rw [setB_ne h3, setB_ne h2, setX_ne h2]; exact h.r10
  · rw [setB_ne h3, setX_ne h3]; exact h.r12
theorem JMa.n10 (h : JMa wd L j xx b x w) (hb : b 9 = false) : b 10 = false := by cases e : b 10; rfl; have := h.up.2 e; rw [hb] at this; cases this
theorem JMa.n12 (h : JMa wd L j xx b x w) (hb : b 10 = false) : b 12 = false := by cases e : b 12; rfl; have := h.up.1 e; rw [hb] at this; cases this
theorem JMa.s9 (h : JMa wd L j xx b x w) (hb : b 9 = false) : JMa wd L j xx (setB b 9) (setX x 9 (.slice (some ⟨w.heap.size, 0, none⟩) 1 1)) (w.alloc (.cells #[.int .i64 xx.ses, .string xx.path, .bool xx.kids, .bool xx.once] 49)) := by
  have h10 := h.n10 hb
  have h12 := h.n12 h10
  refine ⟨h.bel.alloc h.bel.size _, ?_, ?_, ?_, ?_⟩
  · rw [setB_ne (by decide), setB_ne (by decide), h10, h12]; exact ⟨fun e => (by cases e), fun e => (by cases e)⟩
  · intro _ _; exact ⟨w.heap.size, setX_same _ _ _, heap_alloc_new w _⟩
  · rw [setB_ne (by decide), h10]; intro e; cases e
  · rw [setB_ne (by decide), h12]; intro e; cases e
theorem JMa.s10 {v : Value} (h : JMa wd L j xx b x w) (h9 : b 9 = true) (hb : b 10 = false) (hr : WRow w' w.heap.size v (L.take j ++ [xx])) (hg : w.grownBy w' none) : JMa wd L j xx (setB b 10) (setX x 10 v) w' := by
  have h12 := h.n12 hb
  refine ⟨h.bel.grown hg h.bel.size (fun q hq => by cases hq), ?_, ?_, ?_, ?_⟩
  · rw [setB_ne (by decide), h12]; exact ⟨fun e => (by cases e), fun _ => setB_up h9⟩
  · rw [setB_same]; intro _ e; cases e
  · intro _ _; rw [setX_same]; exact ownsRow_less hr h.bel.size
  · rw [setB_ne (by decide), h12]; intro e; cases e
theorem JMa.s12 {v : Value} (h : JMa wd L j xx b x w) (h10 : b 10 = true) (hb : b 12 = false) (hr : WRow w' wd.heap.size v (L.take j ++ [xx] ++ L.drop j)) (hg : w.grownBy w' (x 10).ownBlock) : JMa wd L j xx (setB b 12) (setX x 12 v) w' := by
  have h9 := h.up.2 h10
  refine ⟨h.bel.grown hg h.bel.size (fun q hq => (row_own (h.r10 h10 hb) hq).choose_spec.2), ⟨fun _ => setB_up h10, fun _ => setB_up h9⟩, ?_, ?_, ?_⟩
  · intro _ e; rw [setB_ne (by decide), h10] at e; cases e
  · rw [setB_same]; intro _ e; cases e
  · intro _; rw [setX_same]
    have : L.take j ++ xx :: L.drop j = L.take j ++ [xx] ++ L.drop j := by simp
    rw [this]; exact hr
end
theorem checkE_or (l : List UInt8) : checkE l = 0 ∨ checkE l = 10 := by unfold checkE; split <;> simp
set_option maxHeartbeats 8000000 in
theorem madd_any (base mb : Nat) (vw ve vm : Value) (Ws : List Wa) (Es : List Ev) (k c : Nat) (N : Int → Option Int) (x : Wa) (w : World) (h : MoW w base mb vw ve vm Ws Es k c N) (hs : WsOk Ws) (hl : Ws.length ≤ 1000) (hx : x.ses ≤ 281474976710655) :
    Calls Tryz.prog 20 #[.pointer (some ⟨mb, 0, none⟩), waV x] w fun e w' => e = .returned (.int .i64 (addE Ws x)) ∧ ∃ vw', MoW w' base mb vw' ve vm (addL Ws x) Es k c N ∧ FrM w w' mb vw ve vm vw' ve vm := by
  have bA := (Below.refl w.heap.size w).alloc (Nat.le_refl _) (.cells #[.int .i64 x.ses, .string x.path, .bool x.kids, .bool x.once] 49)
  have NA : WaB (w.alloc (.cells #[.int .i64 x.ses, .string x.path, .bool x.kids, .bool x.once] 49)) w.heap.size x := heap_alloc_new w _
  have HCK := Lib.hid (fun W => check_any x.path W)
  have HH := Lib.hid h
  have HWS := Lib.hid hs
  have hmlt := h.lt
  obtain ⟨w1, hw1⟩ : ∃ w1, w1 = w.alloc (.cells #[.int .i64 x.ses, .string x.path, .bool x.kids, .bool x.once] 49) := ⟨_, rfl⟩
  obtain ⟨xb, hxb⟩ : ∃ xb, xb = w.heap.size := ⟨_, rfl⟩
  have HXB := Lib.hid hxb
  rw [← hw1] at NA bA
  rw [← hxb] at NA
  have HW1 := Lib.hid hw1
  have q1 := NA.cells
  obtain ⟨q0, q1, q2, q3⟩ := q1
  have HNA := Lib.hid NA
  have HB1 := Lib.hid bA
  clear NA bA hw1 hxb h hs
  unfold waV
  go_enter Tryz.func20, Tryz.ntmps20
  go_upto_region 1 with fail
  rw [← HW1.out, ← HXB.out]
  by_cases hses : x.ses < 1
  · have e1 : decide (x.ses < 1) = true := by simpa using hses
    have hb : badS x = true := by unfold badS; rw [e1]; rfl
    have HE : Hid (addE Ws x = 1 ∧ addL Ws x = Ws) := Lib.hid ⟨by unfold addE; rw [if_pos hb], by unfold addL; rw [if_pos hb]⟩
    clear hses hb
    go_wp2_with fail
    go_ret
    rw [HE.out.1, HE.out.2]
    exact ⟨rfl, _, HH.out.below HB1.out, FrM.low HB1.out⟩
  · have e1 : decide (x.ses < 1) = false := by simpa using hses
    have HBAD : Hid (badS x = false) := Lib.hid (by unfold badS; rw [e1]; simp; omega)
    clear hses
    go_wp2_with fail
    refine (HCK.out _).mono ?_
    rintro e w2 ⟨rfl, b2⟩
    have HN2 := Lib.hid (HNA.out.below b2)
    have HB2 : Hid (Below w.heap.size w w2) := Lib.hid (HB1.out.trans (b2.mono HB1.out.size))
    clear b2 q0 q1 q2 q3 HNA HB1
    rcases checkE_or x.path.data.toList with hc | hc
    · have HC := Lib.hid hc
      rw [hc]
      clear hc
      obtain ⟨wa, wc, rfl, hga, hwc⟩ := waV_form HH.out.ws
      have HG := Lib.hid hga
      have x0 := (HH.out.below HB2.out).c0
      obtain ⟨p, hp⟩ : ∃ p, p = posF Ws x := ⟨_, rfl⟩
      have HF : Hid (Found Ws x p) := Lib.hid (by rw [hp]; exact pos_found HWS.out)
      have hpl := HF.out.le
      have HP := Lib.hid hp
      clear hga hp
      go_wp2_with fail
      go_loopw [5, 21] (fun av iv wr => ∃ (j q : Nat), j ≤ Ws.length ∧ iv = .int .i64 j ∧ av = .int .i64 q ∧ q ≤ j ∧ Hid (q = min j p) ∧ Hid (∀ i y, i < j → Ws[i]? = some y → y ≠ x) ∧ Hid (Below w2.heap.size w2 wr)) (fun _ iv _ => Ws.length - (intOf iv).toNat)
      case atStart => exact ⟨0, 0, by omega, rfl, rfl, by omega, Lib.hid (by simp), Lib.hid (fun i y hi => by omega), Lib.hid (Below.refl _ _)⟩
      case round =>
        obtain ⟨j, q, hj, rfl, rfl, hqj, HQ, HNE, HB⟩ := hrel
        clear x0
        have HBW : Hid (Below w.heap.size w wr) := Lib.hid (HB2.out.trans (HB.out.mono HB2.out.size))
        by_cases hlt : j < Ws.length
        · have hlt2 : decide ((j : Int) < (Ws.length : Int)) = true := by simp; omega
          obtain ⟨y, hy⟩ : ∃ y, Ws[j]? = some y := ⟨Ws[j], by simp [hlt]⟩
          obtain ⟨g, rfl, hgw, _⟩ := HG.out (by omega)
          have hrw := (HH.out.below HBW.out).ws
          have y0 := waC0 hrw hy rfl
          have y1 := waC1 hrw hy rfl
          have y2 := waC2 hrw hy rfl
          have y3 := waC3 hrw hy rfl
          have hj0 : (0 : Int) ≤ (j : Int) := by omega
          have hji : (j : Int) < (Ws.length : Int) := by omega
          have t2 : IntKind.i64.wrap ((j : Int) + 1) = (j : Int) + 1 := IntWalk.i64_in _ (by omega)
          have HY := Lib.hid hy
          clear hrw hy
          go_upto_region 9 with fail
          have NY : WaB (wr.alloc (.cells #[.int .i64 y.ses, .string y.path, .bool y.kids, .bool y.once] 49)) wr.heap.size y := heap_alloc_new wr _
          have bY := (Below.refl wr.heap.size wr).alloc (Nat.le_refl _) (.cells #[.int .i64 y.ses, .string y.path, .bool y.kids, .bool y.once] 49)
          obtain ⟨w6, hw6⟩ : ∃ w6, w6 = wr.alloc (.cells #[.int .i64 y.ses, .string y.path, .bool y.kids, .bool y.once] 49) := ⟨_, rfl⟩
          obtain ⟨yb, hyb⟩ : ∃ yb, yb = wr.heap.size := ⟨_, rfl⟩
          rw [← hw6] at NY bY ⊢
          rw [← hyb] at NY ⊢
          have HB6 : Hid (Below w2.heap.size w2 w6) := Lib.hid (HB.out.trans (bY.mono HB.out.size))
          have NX6 := HN2.out.below HB6.out
          obtain ⟨q0, q1, q2, q3⟩ := NY.cells
          obtain ⟨p0, p1, p2, p3⟩ := NX6.cells
          have hbf := before_any y x w6
          unfold waV at hbf
          have HBF := Lib.hid hbf
          clear HB bY hw6 hyb y0 y1 y2 y3 hbf NY NX6
          by_cases hyx : y = x
          · have heq : ∀ W, (binOp .eql 49 (.agg #[.int .i64 y.ses, .string y.path, .bool y.kids, .bool y.once]) (.agg #[.int .i64 x.ses, .string x.path, .bool x.kids, .bool x.once])).run Tryz.prog W = .ok (.bool true) W := fun W => eq_wa y x true (by simp [hyx]) W
            have HE : Hid (addE Ws x = 0 ∧ addL Ws x = Ws) := Lib.hid (add_old HBAD.out HC.out ((isB_mem HWS.out).2 (hyx ▸ List.mem_of_getElem? HY.out)))
            have HB7 : Hid (Below w.heap.size w w6) := Lib.hid (HB2.out.trans (HB6.out.mono HB2.out.size))
            clear hyx HBF
            go_wp2_with fail
            go_ret
            rw [HE.out.1, HE.out.2]
            exact ⟨rfl, _, HH.out.below HB7.out, FrM.low HB7.out⟩
          · have heq : ∀ W, (binOp .eql 49 (.agg #[.int .i64 y.ses, .string y.path, .bool y.kids, .bool y.once]) (.agg #[.int .i64 x.ses, .string x.path, .bool x.kids, .bool x.once])).run Tryz.prog W = .ok (.bool false) W := fun W => eq_wa y x false (by simp [hyx]) W
            have HN9 : Hid (∀ i z, i < j + 1 → Ws[i]? = some z → z ≠ x) := Lib.hid (fun i z hi hz => by
              by_cases hij : i = j
              · subst hij
                have := HY.out
                rw [this] at hz
                injection hz with hz
                rw [← hz]; exact hyx
              · exact HNE.out i z (by omega) hz)
            clear hyx
            go_wp2_with fail
            refine HBF.out.mono ?_
            rintro e w7 ⟨rfl, b7⟩
            have HB7 : Hid (Below w2.heap.size w2 w7) := Lib.hid (HB6.out.trans (b7.mono HB6.out.size))
            clear b7 HB6 HBF heq q0 q1 q2 q3 p0 p1 p2 p3
            cases hq : decide (orderF y x < 0) with
            | true =>
              have HQ9 : Hid (j + 1 = min (j + 1) p) := Lib.hid (by
                have : ¬ p ≤ j := fun h => HF.out.high j y h HY.out (of_decide_eq_true hq)
                omega)
              clear hq
              go_wp2_with fail
              go_roundw
              case rel => exact ⟨j + 1, j + 1, by omega, by go_num, by go_num, by omega, HQ9, HN9, HB7⟩
              case measure => simp [intOf]; omega
            | false =>
              have HQ9 : Hid (q = min (j + 1) p) := Lib.hid (by
                have h1 : ¬ j < p := fun h => (of_decide_eq_false hq) (HF.out.low j y h HY.out)
                have h2 := HQ.out
                omega)
              clear hq
              go_wp2_with fail
              go_roundw
              case rel => exact ⟨j + 1, q, by omega, by go_num, rfl, by omega, HQ9, HN9, HB7⟩
              case measure => simp [intOf]; omega
        · obtain rfl : j = Ws.length := by omega
          have hlt2 : decide ((Ws.length : Int) < (Ws.length : Int)) = false := by simp
          have hqp : q = p := by have := HQ.out; omega
          subst hqp
          have HNM : Hid (¬ x ∈ Ws) := Lib.hid (fun hm => by
            obtain ⟨i, hi⟩ := List.mem_iff_getElem?.1 hm
            exact HNE.out i x (List.getElem?_eq_some_iff.1 hi).1 hi rfl)
          have HISB : Hid (isB Ws x (posF Ws x) = false) := Lib.hid (isB_not HWS.out HNM.out)
          have x9 := (HH.out.below HBW.out).c0
          by_cases h40 : 40 ≤ Ws.length
          · have e5 : decide ((40 : Int) ≤ (Ws.length : Int)) = true := by simp; omega
            have HE : Hid (addE Ws x = 16 ∧ addL Ws x = Ws) := Lib.hid (add_full HBAD.out HC.out HISB.out h40)
            clear h40
            go_wp2_with fail
            go_ret
            rw [HE.out.1, HE.out.2]
            exact ⟨rfl, _, HH.out.below HBW.out, FrM.low HBW.out⟩
          · have e5 : decide ((40 : Int) ≤ (Ws.length : Int)) = false := by simp; omega
            have HE : Hid (addE Ws x = 0 ∧ addL Ws x = Ws.take q ++ x :: Ws.drop q) := Lib.hid (by
              have := add_new HBAD.out HC.out HISB.out (by omega)
              rw [← HP.out] at this; exact this)
            have hl40 : Ws.length < 40 := by omega
            have bW0 := (Below.refl wr.heap.size wr).alloc (Nat.le_refl _) (.cells #[] 49)
            have RW : WRow (wr.alloc (.cells #[] 49)) wr.heap.size (.slice (some ⟨wr.heap.size, 0, none⟩) 0 0) [] := World.ownsRow_made wr #[] 0 (Nat.le_refl _) (Nat.zero_le _) rfl
            obtain ⟨v47, hs47, v7, w7, hrun7, hrow7, hgr7⟩ := app_tail 28 (wr.alloc (.cells #[] 49)) wr.heap.size base _ [] RW (.slice wa Ws.length wc) Ws ((HH.out.below HBW.out).below bW0).ws q hpl ⟨by omega, by simp⟩ bW0.size
            have HS47 := Lib.hid hs47
            have HAP := Lib.hid hrun7
            have HB7 : Hid (Below wr.heap.size wr w7) := Lib.hid (bW0.grown hgr7 bW0.size (fun g hg => (row_own RW hg).choose_spec.2))
            have HR7 : Hid (WRow w7 wr.heap.size v7 (Ws.drop q)) := Lib.hid (by simpa using hrow7)
            have x10 := ((HH.out.below HBW.out).below bW0).c0
            clear h40 bW0 RW hs47 hrun7 hrow7 hgr7
            go_upto_region 17 with (first | (refine wpList_slice_run (HS47.out _) rfl rfl rfl rfl ?_) | (at_builtin; refine Lib.wpList_append_run _ rfl _ _ _ _ rfl _ _ rfl rfl _ _ HAP.out ?_))
            clear HS47 HAP x9 x10
            have b7d : Below wr.heap.size wr w7.drew := HB7.out.drew
            have HR8 : Hid (WRow w7.drew wr.heap.size v7 (Ws.drop q)) := Lib.hid (HR7.out.below (Below.refl _ w7).drew)
            have HM8 : Hid (MoW w7.drew base mb (.slice wa Ws.length wc) ve vm Ws Es k c N) := Lib.hid ((HH.out.below HBW.out).below b7d)
            have HX8 : Hid (WaB w7.drew xb x) := Lib.hid ((HN2.out.below HB.out).below b7d)
            have HB8 : Hid (Below w.heap.size w w7.drew) := Lib.hid (HBW.out.trans (b7d.mono HBW.out.size))
            have HCE : Hid (∀ W : World, Below w7.drew.heap.size w7.drew W → W.cell? ⟨mb, 0, none⟩ = some (.slice wa Ws.length wc) ∧ Wa4 W xb 0 x) := Lib.hid fun W hW => ⟨(HM8.out.below hW).c0, (HX8.out.below hW).cells⟩
            have HWF : Hid (∃ a n cc, (Value.slice wa Ws.length wc) = .slice a n cc) := Lib.hid ⟨_, _, _, rfl⟩
            have HS2 : Hid (∀ W : World, (Instr.sliceAt 28 (.slice wa Ws.length wc) none (some (.int .i64 (q : Int))) (some (.int .i64 (q : Int)))).run Tryz.prog W = .ok (.slice wa q q) W) := Lib.hid fun W => run_cut3w W wa Ws.length wc q hpl ⟨hwc, by omega⟩ (fun h => by
              rcases HM8.out.ws.2 with ⟨e1, e2⟩ | ⟨g, cap, cur, e1, _⟩
              · injection e1 with _ e1 e3; exact ⟨e2, e3⟩
              · rw [h] at e1; injection e1 with e1; cases e1)
            have HAPF : Hid (∀ (W : World) (vb : Nat), Below w7.drew.heap.size w7.drew W → WaB W vb x → ∃ v' w', (Builtin.append_ #[28, 28] 28 #[.slice wa q q, .slice (some ⟨vb, 0, none⟩) 1 1]).run Tryz.prog W = .ok v' w' ∧ WRow w' W.heap.size v' (Ws.take q ++ [x]) ∧ W.grownBy w' none) := Lib.hid fun W vb hW hx => app_front _ W base wa wc Ws (HM8.out.below hW).ws q hpl (by omega) x vb hx
            have HAPR : Hid (∀ (W : World) (v0 : Value), Below w7.drew.heap.size w7.drew W → WRow W w7.drew.heap.size v0 (Ws.take q ++ [x]) → ∃ v' w', (Builtin.append_ #[28, 28] 28 #[v0, v7]).run Tryz.prog W = .ok v' w' ∧ WRow w' w7.drew.heap.size v' (Ws.take q ++ [x] ++ Ws.drop q) ∧ W.grownBy w' v0.ownBlock) := Lib.hid fun W v0 hW h0 => app_row _ W w7.drew.heap.size wr.heap.size v0 _ h0 v7 _ (HR8.out.below hW) ⟨by rw [List.length_drop]; omega, by rw [List.length_append, List.length_take]; simp; omega⟩ hW.size
            refine wp_region_inv_last 15 (IFJ (FMa mb q wa Ws.length wc x v7) (JMa w7.drew Ws q x)) (by kernel_rfl) (by kernel_rfl) (by kernel_rfl) (by kernel_rfl) (by kernel_rfl) ?_ ?_ ?_
            · intro z
              exact ⟨fun j hj => (by cases hj), ⟨Below.refl _ _, ⟨fun e => (by cases e), fun e => (by cases e)⟩, fun e => (by cases e), fun e => (by cases e), fun e => (by cases e)⟩⟩
            · intro i o hi ho b z w1 hI hbi hW
              match i, ho with
              | 0, ho =>
                obtain rfl := Option.some.inj ho
                exact gstep_move rfl (wanted0 rfl) _ rfl _ (eval_of 0 _ (by kernel_rfl) rfl) ⟨_, rfl, IFJ.step hI rfl (hI.2.pure (by decide))⟩
              | 1, ho =>
                obtain rfl := Option.some.inj ho
                exact gstep_move rfl (wanted0 rfl) _ rfl _ (eval_of 0 _ (by kernel_rfl) rfl) ⟨_, rfl, IFJ.step hI rfl (hI.2.pure (by decide))⟩
              | 2, ho =>
                obtain rfl := Option.some.inj ho
                exact gstep_nil rfl (wanted0 rfl) _ rfl _ (eval_at 50 1 _ (by kernel_rfl) (show 50 < 64 by decide) (hI.1 1 (hW 1 (by kernel_rfl)))) ⟨_, rfl, IFJ.step hI rfl (hI.2.pure (by decide))⟩
              | 3, ho =>
                obtain rfl := Option.some.inj ho
                exact gstep_field rfl (wanted0 rfl) _ _ _ rfl _ (eval_at 51 2 _ (by kernel_rfl) (show 51 < 64 by decide) (hI.1 2 (hW 2 (by kernel_rfl)))) _ (run_moF0 _ _) ⟨_, rfl, IFJ.step hI rfl (hI.2.pure (by decide))⟩
              | 4, ho =>
                obtain rfl := Option.some.inj ho
                exact gstep_load rfl (wanted0 rfl) _ _ rfl _ (eval_at 52 3 _ (by kernel_rfl) (show 52 < 64 by decide) (hI.1 3 (hW 3 (by kernel_rfl)))) _ (run_lws _ _ _ HWF.out (HCE.out w1 hI.2.bel).1) ⟨_, rfl, IFJ.step hI rfl (hI.2.pure (by decide))⟩
              | 5, ho =>
                obtain rfl := Option.some.inj ho
                exact gstep_move rfl (wanted0 rfl) _ rfl _ (eval_of 5 _ (by kernel_rfl) rfl) ⟨_, rfl, IFJ.step hI rfl (hI.2.pure (by decide))⟩
              | 6, ho =>
                obtain rfl := Option.some.inj ho
                exact gstep_move rfl (wanted0 rfl) _ rfl _ (eval_of 5 _ (by kernel_rfl) rfl) ⟨_, rfl, IFJ.step hI rfl (hI.2.pure (by decide))⟩
              | 7, ho =>
                obtain rfl := Option.some.inj ho
                exact gstep_slice3 rfl (wanted0 rfl) _ _ _ _ rfl _ _ _ (eval_at 53 4 _ (by kernel_rfl) (show 53 < 64 by decide) (hI.1 4 (hW 4 (by kernel_rfl)))) (eval_at 54 5 _ (by kernel_rfl) (show 54 < 64 by decide) (hI.1 5 (hW 5 (by kernel_rfl)))) (eval_at 55 6 _ (by kernel_rfl) (show 55 < 64 by decide) (hI.1 6 (hW 6 (by kernel_rfl)))) _ (HS2.out w1) ⟨_, rfl, IFJ.step hI rfl (hI.2.pure (by decide))⟩
              | 8, ho =>
                obtain rfl := Option.some.inj ho
                exact gstep_load rfl (wanted0 rfl) _ _ rfl _ (eval_of 3 _ (by kernel_rfl) rfl) _ (run_lwa w1 _ 0 _ (HCE.out w1 hI.2.bel).2) ⟨_, rfl, IFJ.step hI rfl (hI.2.pure (by decide))⟩
              | 9, ho =>
                obtain rfl := Option.some.inj ho
                exact gstep_row1 rfl (wanted0 rfl) _ _ rfl _ (eval_at 57 8 _ (by kernel_rfl) (show 57 < 64 by decide) (hI.1 8 (hW 8 (by kernel_rfl)))) _ _ (run_rowW w1 x) ⟨_, rfl, IFJ.step hI trivial (hI.2.s9 hbi)⟩
              | 10, ho =>
                obtain rfl := Option.some.inj ho
                obtain ⟨vb, hx9, hwb⟩ := hI.2.r9 (hW 9 (by kernel_rfl)) hbi
                obtain ⟨v8, w8, hrun, hr8, hg8⟩ := HAPF.out w1 vb hI.2.bel hwb
                exact gstep_app rfl (wanted0 rfl) _ _ _ rfl _ _ (eval_at 56 7 _ (by kernel_rfl) (show 56 < 64 by decide) (hI.1 7 (hW 7 (by kernel_rfl)))) (eval_at 58 9 _ (by kernel_rfl) (show 58 < 64 by decide) hx9) _ _ hrun ⟨_, rfl, IFJ.step hI trivial (hI.2.s10 (hW 9 (by kernel_rfl)) hbi hr8 hg8)⟩
              | 11, ho =>
                obtain rfl := Option.some.inj ho
                exact gstep_move rfl (wanted0 rfl) _ rfl _ (eval_of 8 _ (by kernel_rfl) rfl) ⟨_, rfl, IFJ.step hI rfl (hI.2.pure (by decide))⟩
              | 12, ho =>
                obtain rfl := Option.some.inj ho
                obtain ⟨v8, w8, hrun, hr8, hg8⟩ := HAPR.out w1 (z 10) hI.2.bel (hI.2.r10 (hW 10 (by kernel_rfl)) hbi)
                exact gstep_app rfl (wanted0 rfl) _ _ _ rfl _ _ (eval_at 59 10 _ (by kernel_rfl) (show 59 < 64 by decide) rfl) (eval_at 60 11 _ (by kernel_rfl) (show 60 < 64 by decide) (hI.1 11 (hW 11 (by kernel_rfl)))) _ _ hrun ⟨_, rfl, IFJ.step hI trivial (hI.2.s12 (hW 10 (by kernel_rfl)) hbi hr8 hg8)⟩
              | 13, ho =>
                obtain rfl := Option.some.inj ho
                exact gstep_nil rfl (wanted0 rfl) _ rfl _ (eval_at 49 0 _ (by kernel_rfl) (show 49 < 64 by decide) (hI.1 0 (hW 0 (by kernel_rfl)))) ⟨_, rfl, IFJ.step hI rfl (hI.2.pure (by decide))⟩
              | 14, ho =>
                obtain rfl := Option.some.inj ho
                exact gstep_field rfl (wanted0 rfl) _ _ _ rfl _ (eval_at 62 13 _ (by kernel_rfl) (show 62 < 64 by decide) (hI.1 13 (hW 13 (by kernel_rfl)))) _ (run_moF0 _ _) ⟨_, rfl, IFJ.step hI rfl (hI.2.pure (by decide))⟩
              | n + 15, ho => omega
            · intro o ho b z w1 hI hA
              obtain rfl := Option.some.inj ho
              have hF14 : z 14 = .pointer (some ⟨mb, 0, none⟩) := hI.1 14 (hA 14 (by decide))
              have hrow := hI.2.r12 (hA 12 (by decide))
              have bw1 := hI.2.bel
              have bww : Below w.heap.size w w1 := HB8.out.trans (bw1.mono HB8.out.size)
              have hM1 := HM8.out.below bw1
              obtain ⟨a9, c9, hx12, _, _⟩ := waV_form hrow
              have hcell := hM1.c0
              have hfrz := hM1.frz 0
              have hK := hM1.turn (v' := z 12) (L' := Ws.take q ++ x :: Ws.drop q) (⟨rfl, rfl, rfl, Nat.le_refl _, fun _ _ _ => rfl⟩) (ownsRow_less hrow HM8.out.lo.2)
              have hF := FrM.setW (mb := mb) (vw := .slice wa Ws.length wc) (ve := ve) (vm := vm) (v' := z 12) bww (fun b hb => Nat.le_trans HB8.out.size (row_own hrow hb).choose_spec.2)
              obtain ⟨nl, hnl⟩ : ∃ nl, nl = (Ws.take q ++ x :: Ws.drop q).length := ⟨_, rfl⟩
              rw [← hnl] at hx12
              rw [hx12] at hK hF
              refine gstep_store rfl (wanted0 rfl) _ _ _ rfl _ _ (eval_at 63 14 _ (by kernel_rfl) (show 63 < 64 by decide) hF14) (eval_at 61 12 _ (by kernel_rfl) (show 61 < 64 by decide) hx12) _ (run_storeWs w1 _ _ _ _ _ hcell hfrz) ?_
              simp only [putAll, Act.put, List.setIfInBounds_toArray, List.set_cons_succ, List.set_cons_zero]
              have HK := Lib.hid hK
              have HFR := Lib.hid hF
              clear hI hA hrow bw1 bww hM1 hx12 hcell hfrz hK hF hF14 hnl
              go_wp2_with fail
              go_ret
              rw [HE.out.1, HE.out.2]
              exact ⟨rfl, _, HK.out, HFR.out⟩
    · have HE : Hid (addE Ws x = 10 ∧ addL Ws x = Ws) := Lib.hid (by
        have nb : ¬ badS x = true := by rw [HBAD.out]; decide
        have np : ¬ checkE x.path.data.toList = 0 := by rw [hc]; decide
        exact ⟨by unfold addE; rw [if_neg nb, if_neg np]; exact hc, by unfold addL; rw [if_neg nb, if_neg np]⟩)
      rw [hc]
      clear hc
      go_wp2_with fail
      go_ret
      rw [HE.out.1, HE.out.2]
      exact ⟨rfl, _, HH.out.below HB2.out, FrM.low HB2.out⟩
end Go.Proofs.YtbbdokfankgllaaGreatDoor
