/- Loads and stores of a whole message, as single steps. No conditions beyond those in each statement. -/
import Derived.Test.YtddkbninkncbeaaMList
namespace Go.Proofs.Ytddkbninkncbeaa
open Go.RowKit
set_option linter.unusedVariables false
set_option linter.unusedSimpArgs false
set_option maxRecDepth 100000

theorem run_loadM {W : World} {b n c k sc : Nat} {a sa : Option Addr} {m : Mg} (h : MgB W b (.slice a n c) (.slice sa k sc) m) : (Instr.loadAt 29 (.pointer (some ⟨b, 0, none⟩))).run Try.prog W = .ok (mgV (.slice a n c) (.slice sa k sc) m) W := by
  obtain ⟨⟨c0, c1, c2, c3, c4, c5, c6, c7, c8, c9, c10, c11, c12, c13, c14, c15, c16⟩, _⟩ := MgB.cells h
  simp [go_sem, c0, c1, c2, c3, c4, c5, c6, c7, c8, c9, c10, c11, c12, c13, c14, c15, c16, mgV]
theorem run_storeM {W : World} {b n c k sc : Nat} {a sa : Option Addr} {u0 v0 : Value} {m0 m : Mg} (h : MgB W b u0 v0 m0) : (Instr.storeAt 29 (.pointer (some ⟨b, 0, none⟩)) (mgV (.slice a n c) (.slice sa k sc) m)).run Try.prog W = .ok () (((((((((((((((((W.setCell ⟨b, 0, none⟩ (.int .i64 m.kd)).setCell ⟨b, 1, none⟩ (.int .i64 m.fr)).setCell ⟨b, 2, none⟩ (.int .i64 m.dt)).setCell ⟨b, 3, none⟩ (.int .i64 m.tm)).setCell ⟨b, 4, none⟩ (.int .i64 m.ix)).setCell ⟨b, 5, none⟩ (.int .i64 m.lg)).setCell ⟨b, 6, none⟩ (.int .i64 m.la)).setCell ⟨b, 7, none⟩ (.int .i64 m.co)).setCell ⟨b, 8, none⟩ (.slice a n c)).setCell ⟨b, 9, none⟩ (.bool m.ok)).setCell ⟨b, 10, none⟩ (.int .i64 m.st)).setCell ⟨b, 11, none⟩ (.int .i64 m.li)).setCell ⟨b, 12, none⟩ (.int .i64 m.lt)).setCell ⟨b, 13, none⟩ (.int .i64 m.lb)).setCell ⟨b, 14, none⟩ (.slice sa k sc)).setCell ⟨b, 15, none⟩ (.int .i64 m.pa)).setCell ⟨b, 16, none⟩ (.string m.da)) := by
  obtain ⟨⟨c0, c1, c2, c3, c4, c5, c6, c7, c8, c9, c10, c11, c12, c13, c14, c15, c16⟩, y0, y1, y2, y3, y4, y5, y6, y7, y8, y9, y10, y11, y12, y13, y14, y15, y16⟩ := MgB.cells h
  simp [go_sem, c0, c1, c2, c3, c4, c5, c6, c7, c8, c9, c10, c11, c12, c13, c14, c15, c16, y0, y1, y2, y3, y4, y5, y6, y7, y8, y9, y10, y11, y12, y13, y14, y15, y16, mgV]
theorem storeM {W : World} {b n c k sc : Nat} {a sa : Option Addr} {u0 v0 : Value} {m0 : Mg} (h : MgB W b u0 v0 m0) (m : Mg) : ∃ W', (Instr.storeAt 29 (.pointer (some ⟨b, 0, none⟩)) (mgV (.slice a n c) (.slice sa k sc) m)).run Try.prog W = .ok () W' ∧ MgB W' b (.slice a n c) (.slice sa k sc) m ∧ (∀ (q : Nat) (x : World), q ≤ b → Below q x W → Below q x W') ∧ (∀ i, i ≠ b → W'.heap[i]? = W.heap[i]?) := by
  refine ⟨_, run_storeM h, MgB.set17 h m, fun q x hq hb => below17 hb hq _ _ _ _ _ _ _ _ _ _ _ _ _ _ _ _ _, fun i hi => ?_⟩
  exact ((Below.heap_setCell _ ⟨b, 16, none⟩ _ i hi).trans ((Below.heap_setCell _ ⟨b, 15, none⟩ _ i hi).trans ((Below.heap_setCell _ ⟨b, 14, none⟩ _ i hi).trans ((Below.heap_setCell _ ⟨b, 13, none⟩ _ i hi).trans ((Below.heap_setCell _ ⟨b, 12, none⟩ _ i hi).trans ((Below.heap_setCell _ ⟨b, 11, none⟩ _ i hi).trans ((Below.heap_setCell _ ⟨b, 10, none⟩ _ i hi).trans ((Below.heap_setCell _ ⟨b, 9, none⟩ _ i hi).trans ((Below.heap_setCell _ ⟨b, 8, none⟩ _ i hi).trans ((Below.heap_setCell _ ⟨b, 7, none⟩ _ i hi).trans ((Below.heap_setCell _ ⟨b, 6, none⟩ _ i hi).trans ((Below.heap_setCell _ ⟨b, 5, none⟩ _ i hi).trans ((Below.heap_setCell _ ⟨b, 4, none⟩ _ i hi).trans ((Below.heap_setCell _ ⟨b, 3, none⟩ _ i hi).trans ((Below.heap_setCell _ ⟨b, 2, none⟩ _ i hi).trans ((Below.heap_setCell _ ⟨b, 1, none⟩ _ i hi).trans ((Below.heap_setCell _ ⟨b, 0, none⟩ _ i hi).trans rfl)))))))))))))))))
theorem RowG.other {α : Type} {e : TypeId} {k : Nat} {one : α → List Value} {W W' : World} {b base : Nat} {v : Value} {L : List α} (h : RowG e k one W base v L) (hk : ∀ i, i ≠ b → W'.heap[i]? = W.heap[i]?) (hb : b < base) : RowG e k one W' base v L := by
  refine ⟨h.1, h.2.imp id ?_⟩
  rintro ⟨g, cc, cur, h1, h3, h4, h5⟩
  exact ⟨g, cc, cur, h1, h3, (hk g (by omega)).trans h4, h5⟩
end Go.Proofs.Ytddkbninkncbeaa
