/- Loads and stores of a whole message, as single steps. No conditions beyond those in each statement. -/
import Derived.Test.YtfijidaohlnphaaNBase
namespace Go.Proofs.Ytfijidaohlnphaa
open Go.RowKit
set_option linter.unusedVariables false
set_option linter.unusedSimpArgs false
set_option maxRecDepth 100000

theorem run_loadM {W : World} {b n c k sc : Nat} {a sa : Option Addr} {m : Mg} (h : MgB W b (.slice a n c) (.slice sa k sc) m) : (Instr.loadAt 41 (.pointer (some ⟨b, 0, none⟩))).run Try.prog W = .ok (mgV (.slice a n c) (.slice sa k sc) m) W := by
  obtain ⟨⟨c0, c1, c2, c3, c4, c5, c6, c7, c8, c9, c10, c11, c12, c13, c14, c15, c16⟩, _⟩ := MgB.cells h
  simp [go_sem, c0, c1, c2, c3, c4, c5, c6, c7, c8, c9, c10, c11, c12, c13, c14, c15, c16, mgV]
theorem run_storeM {W : World} {b n c k sc : Nat} {a sa : Option Addr} {u0 v0 : Value} {m0 m : Mg} (h : MgB W b u0 v0 m0) : (Instr.storeAt 41 (.pointer (some ⟨b, 0, none⟩)) (mgV (.slice a n c) (.slice sa k sc) m)).run Try.prog W = .ok () (((((((((((((((((W.setCell ⟨b, 0, none⟩ (.int .i64 m.kd)).setCell ⟨b, 1, none⟩ (.int .i64 m.fr)).setCell ⟨b, 2, none⟩ (.int .i64 m.dt)).setCell ⟨b, 3, none⟩ (.int .i64 m.tm)).setCell ⟨b, 4, none⟩ (.int .i64 m.ix)).setCell ⟨b, 5, none⟩ (.int .i64 m.lg)).setCell ⟨b, 6, none⟩ (.int .i64 m.la)).setCell ⟨b, 7, none⟩ (.int .i64 m.co)).setCell ⟨b, 8, none⟩ (.slice a n c)).setCell ⟨b, 9, none⟩ (.bool m.ok)).setCell ⟨b, 10, none⟩ (.int .i64 m.st)).setCell ⟨b, 11, none⟩ (.int .i64 m.li)).setCell ⟨b, 12, none⟩ (.int .i64 m.lt)).setCell ⟨b, 13, none⟩ (.int .i64 m.lb)).setCell ⟨b, 14, none⟩ (.slice sa k sc)).setCell ⟨b, 15, none⟩ (.int .i64 m.pa)).setCell ⟨b, 16, none⟩ (.string m.da)) := by
  obtain ⟨⟨c0, c1, c2, c3, c4, c5, c6, c7, c8, c9, c10, c11, c12, c13, c14, c15, c16⟩, y0, y1, y2, y3, y4, y5, y6, y7, y8, y9, y10, y11, y12, y13, y14, y15, y16⟩ := MgB.cells h
  simp [go_sem, c0, c1, c2, c3, c4, c5, c6, c7, c8, c9, c10, c11, c12, c13, c14, c15, c16, y0, y1, y2, y3, y4, y5, y6, y7, y8, y9, y10, y11, y12, y13, y14, y15, y16, mgV]
theorem storeM {W : World} {b n c k sc : Nat} {a sa : Option Addr} {u0 v0 : Value} {m0 : Mg} (h : MgB W b u0 v0 m0) (m : Mg) : ∃ W', (Instr.storeAt 41 (.pointer (some ⟨b, 0, none⟩)) (mgV (.slice a n c) (.slice sa k sc) m)).run Try.prog W = .ok () W' ∧ MgB W' b (.slice a n c) (.slice sa k sc) m ∧ (∀ (q : Nat) (x : World), q ≤ b → Below q x W → Below q x W') ∧ (∀ i, i ≠ b → W'.heap[i]? = W.heap[i]?) := by
  refine ⟨_, run_storeM h, MgB.set17 h m, fun q x hq hb => below17 hb hq _ _ _ _ _ _ _ _ _ _ _ _ _ _ _ _ _, fun i hi => ?_⟩
  exact ((Below.heap_setCell _ ⟨b, 16, none⟩ _ i hi).trans ((Below.heap_setCell _ ⟨b, 15, none⟩ _ i hi).trans ((Below.heap_setCell _ ⟨b, 14, none⟩ _ i hi).trans ((Below.heap_setCell _ ⟨b, 13, none⟩ _ i hi).trans ((Below.heap_setCell _ ⟨b, 12, none⟩ _ i hi).trans ((Below.heap_setCell _ ⟨b, 11, none⟩ _ i hi).trans ((Below.heap_setCell _ ⟨b, 10, none⟩ _ i hi).trans ((Below.heap_setCell _ ⟨b, 9, none⟩ _ i hi).trans ((Below.heap_setCell _ ⟨b, 8, none⟩ _ i hi).trans ((Below.heap_setCell _ ⟨b, 7, none⟩ _ i hi).trans ((Below.heap_setCell _ ⟨b, 6, none⟩ _ i hi).trans ((Below.heap_setCell _ ⟨b, 5, none⟩ _ i hi).trans ((Below.heap_setCell _ ⟨b, 4, none⟩ _ i hi).trans ((Below.heap_setCell _ ⟨b, 3, none⟩ _ i hi).trans ((Below.heap_setCell _ ⟨b, 2, none⟩ _ i hi).trans ((Below.heap_setCell _ ⟨b, 1, none⟩ _ i hi).trans ((Below.heap_setCell _ ⟨b, 0, none⟩ _ i hi).trans rfl)))))))))))))))))
theorem wpList_load_run {P : Program} {w : World} {ops : Array Oper} {rest : List Oper} {o : Oper} {a : Act} {Q : Exit → Act → World → Prop} {t : TypeId} {x : Operand} {v v' : Value} (hr : (Instr.loadAt t v).run P w = .ok v' w) (hgd : o.guard = none) (ho : o.op = .load t x) (hx : a.eval x = v)
    (h : wpList P ops Q rest (a.put o.dst v') w) : wpList P ops Q (o :: rest) a w :=
  wpList_plain hgd fun _ hK => by
    unfold Oper.wp execOp
    simp only [ho, hx, Sem.run_bind, Sem.run_pure, Result.andThen_ok, hr]
    exact hK _ _ h
theorem wpList_store_run {P : Program} {w w' : World} {ops : Array Oper} {rest : List Oper} {o : Oper} {a : Act} {Q : Exit → Act → World → Prop} {t : TypeId} {x y : Operand} {v1 v2 : Value} (hr : (Instr.storeAt t v1 v2).run P w = .ok () w') (hgd : o.guard = none) (ho : o.op = .store t x y) (hx : a.eval x = v1) (hy : a.eval y = v2)
    (h : wpList P ops Q rest (a.put o.dst undef) w') : wpList P ops Q (o :: rest) a w :=
  wpList_plain hgd fun _ hK => by
    unfold Oper.wp execOp
    simp only [ho, hx, hy, Sem.run_bind, Sem.run_pure, Result.andThen_ok, hr]
    exact hK _ _ h
theorem wpList_load_g {P : Program} {w : World} {ops : Array Oper} {rest : List Oper} {o : Oper} {a : Act} {Q : Exit → Act → World → Prop} {t : TypeId} {x : Operand} {v v' : Value} (hr : (Instr.loadAt t v).run P w = .ok v' w) (ho : o.op = .load t x) (hx : a.eval x = v) (hw : Region.wanted o (yielded ops a.tmps) = true)
    (h : wpList P ops Q rest (a.put o.dst v') w) : wpList P ops Q (o :: rest) a w :=
  wpList_step fun K hK => by
    rw [if_pos hw]
    unfold Oper.wp execOp
    simp only [ho, hx, Sem.run_bind, Sem.run_pure, Result.andThen_ok, hr]
    exact hK _ _ h
theorem newM (W : World) (n c k sc : Nat) (a sa : Option Addr) (m : Mg) : ∃ W', (Instr.storeAt 41 (.pointer (some ⟨W.heap.size, 0, none⟩)) (mgV (.slice a n c) (.slice sa k sc) m)).run Try.prog (W.alloc (.cells #[.int .i64 0, .int .i64 0, .int .i64 0, .int .i64 0, .int .i64 0, .int .i64 0, .int .i64 0, .int .i64 0, .slice none 0 0, .bool false, .int .i64 0, .int .i64 0, .int .i64 0, .int .i64 0, .slice none 0 0, .int .i64 0, .string ⟨#[]⟩] 41)) = .ok () W' ∧ MgB W' W.heap.size (.slice a n c) (.slice sa k sc) m ∧ Below W.heap.size W W' := by
  obtain ⟨W', h1, h2, h3, _⟩ := storeM (MgB.new W (.slice none 0 0) (.slice none 0 0) Mg.zero) m (a := a) (n := n) (c := c) (sa := sa) (k := k) (sc := sc)
  exact ⟨W', h1, h2, h3 _ _ (Nat.le_refl _) ((Below.refl _ W).alloc (Nat.le_refl _) _)⟩
end Go.Proofs.Ytfijidaohlnphaa
