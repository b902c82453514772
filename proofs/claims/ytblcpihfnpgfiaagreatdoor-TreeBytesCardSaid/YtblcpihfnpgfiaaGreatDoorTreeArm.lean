/- Loads and stores of a whole node as single steps. No conditions beyond those in each statement. -/
import Derived.Test.YtblcpihfnpgfiaaGreatDoorTreeGet
import Derived.Lib.SliceRun
import Derived.Laws.IdiomStrings
namespace Go.Proofs.YtblcpihfnpgfiaaGreatDoor
open Go.RowKit Go.Maps
set_option linter.unusedVariables false
set_option linter.unusedSimpArgs false
set_option maxRecDepth 100000

theorem get_someR {T : List UInt8 → Option Nd} {z : List UInt8} {n : Nd} (h : checkL z = true) (hT : T z = some n) : getN T z = (n, 0) := by unfold getN; rw [h, hT]; rfl
theorem wpList_load_run {P : Program} {w : World} {ops : Array Oper} {rest : List Oper} {o : Oper} {a : Act} {Q : Exit → Act → World → Prop} {t : TypeId} {x : Operand} {v v' : Value} (hr : (Instr.loadAt t v).run P w = .ok v' w) (hgd : o.guard = none) (ho : o.op = .load t x) (hx : a.eval x = v)
    (h : wpList P ops Q rest (a.put o.dst v') w) : wpList P ops Q (o :: rest) a w :=
  wpList_plain hgd fun _ hK => by
    unfold Oper.wp execOp
    simp only [ho, hx, Sem.run_bind, Sem.run_pure, Result.andThen_ok, hr]
    exact hK _ _ h
theorem wpList_store_run {P : Program} {w w' : World} {ops : Array Oper} {rest : List Oper} {o : Oper} {a : Act} {Q : Exit → Act → World → Prop} {t : TypeId} {x y : Operand} {v1 v2 : Value} (hr : (Instr.storeAt t v1 v2).run P w = .ok () w') (hgd : o.guard = none) (ho : o.op = .store t x y) (hx : a.eval x = v1) (hy : a.eval y = v2)
    (h : wpList P ops Q rest (a.put o.dst undef) w') : wpList P ops Q (o :: rest) a w :=
  wpList_plain hgd fun _ hK => by
    unfold Oper.wp execOp
    simp only [ho, hx, hy, Sem.run_bind, Sem.run_pure, Result.andThen_ok, hr]
    exact hK _ _ h
theorem wpList_load_g {P : Program} {w : World} {ops : Array Oper} {rest : List Oper} {o : Oper} {a : Act} {Q : Exit → Act → World → Prop} {t : TypeId} {x : Operand} {v v' : Value} (hr : (Instr.loadAt t v).run P w = .ok v' w) (ho : o.op = .load t x) (hx : a.eval x = v) (hw : Region.wanted o (yielded ops a.tmps) = true)
    (h : wpList P ops Q rest (a.put o.dst v') w) : wpList P ops Q (o :: rest) a w :=
  wpList_step fun K hK => by
    rw [if_pos hw]
    unfold Oper.wp execOp
    simp only [ho, hx, Sem.run_bind, Sem.run_pure, Result.andThen_ok, hr]
    exact hK _ _ h
theorem run_loadN {W : World} {b : Nat} {n : Nd} (h : NdB W b n) : (Instr.loadAt 40 (.pointer (some ⟨b, 0, none⟩))).run Tryz.prog W = .ok (ndV n) W := by
  obtain ⟨⟨c0, c1, c2, c3, c4, c5, c6⟩, _⟩ := NdB.cells h
  simp [go_sem, c0, c1, c2, c3, c4, c5, c6, ndV]
theorem storeN {W : World} {b : Nat} {m : Nd} (h : NdB W b m) (n : Nd) : ∃ W', (Instr.storeAt 40 (.pointer (some ⟨b, 0, none⟩)) (ndV n)).run Tryz.prog W = .ok () W' ∧ NdB W' b n ∧ (∀ (q : Nat) (x : World), q ≤ b → Below q x W → Below q x W') ∧ (∀ i, i ≠ b → W'.heap[i]? = W.heap[i]?) ∧ W'.heap.size = W.heap.size := by
  have NN := NdB.set7 h n
  obtain ⟨⟨c0, c1, c2, c3, c4, c5, c6⟩, f0, f1, f2, f3, f4, f5, f6⟩ := NdB.cells h
  refine ⟨_, by simp [go_sem, c0, c1, c2, c3, c4, c5, c6, f0, f1, f2, f3, f4, f5, f6, ndV], NN, fun q x hq hb => below7 hb hq _ _ _ _ _ _ _, fun i hi => ?_, by simp⟩
  exact ((Below.heap_setCell _ ⟨b, 6, none⟩ _ i hi).trans ((Below.heap_setCell _ ⟨b, 5, none⟩ _ i hi).trans ((Below.heap_setCell _ ⟨b, 4, none⟩ _ i hi).trans ((Below.heap_setCell _ ⟨b, 3, none⟩ _ i hi).trans ((Below.heap_setCell _ ⟨b, 2, none⟩ _ i hi).trans ((Below.heap_setCell _ ⟨b, 1, none⟩ _ i hi).trans ((Below.heap_setCell _ ⟨b, 0, none⟩ _ i hi).trans rfl)))))))
/-- A node in a new block, written as one step. -/
theorem newN (W : World) (n : Nd) : ∃ W', (Instr.storeAt 40 (.pointer (some ⟨W.heap.size, 0, none⟩)) (ndV n)).run Tryz.prog (W.alloc (.cells #[.string ⟨#[]⟩, .int .i64 0, .int .i64 0, .int .i64 0, .int .i64 0, .int .i64 0, .int .i64 0] 40)) = .ok () W' ∧ NdB W' W.heap.size n ∧ Below W.heap.size W W' ∧ W'.heap.size = W.heap.size + 1 := by
  obtain ⟨W', h1, h2, h3, _, h5⟩ := storeN (NdB.new W Nd.zero) n
  exact ⟨W', h1, h2, h3 _ _ (Nat.le_refl _) ((Below.refl _ W).alloc (Nat.le_refl _) _), by rw [h5]; simp⟩
end Go.Proofs.YtblcpihfnpgfiaaGreatDoor
