/- NetActs: single steps of the law. No conditions beyond those in each statement. -/
import Derived.Test.YtfijidaohlnphaaNActB
namespace Go.Proofs.Ytfijidaohlnphaa
open Go.RowKit
set_option linter.unusedVariables false
set_option linter.unusedSimpArgs false
set_option maxRecDepth 100000

theorem run_fI0 (W : World) (b : Nat) {o : Nat} : (Instr.fieldAt 43 (.pointer (some ⟨b, o, none⟩)) 0).run Try.prog W = .ok (.pointer (some ⟨b, o, none⟩)) W := by go_simp
theorem run_fI1 (W : World) (b : Nat) {o : Nat} : (Instr.fieldAt 43 (.pointer (some ⟨b, o, none⟩)) 1).run Try.prog W = .ok (.pointer (some ⟨b, o + 1, none⟩)) W := by go_simp
theorem run_fM4 (W : World) (b : Nat) : (Instr.fieldAt 41 (.pointer (some ⟨b, 0, none⟩)) 4).run Try.prog W = .ok (.pointer (some ⟨b, 4, none⟩)) W := by go_simp
theorem run_le (W : World) (x y : Int) (B : Bool) (hB : decide (x ≤ y) = B) (s1 s2 : Operand) : (do eqGuard .leq 3 s1 s2 (.int .i64 x) (.int .i64 y); binOp .leq 3 (.int .i64 x) (.int .i64 y) : Sem Value).run Try.prog W = .ok (.bool B) W := by rw [← hB]; go_simp
theorem run_lt2 (W : World) (x y : Int) (B : Bool) (hB : decide (x < y) = B) (s1 s2 : Operand) : (do eqGuard .lss 3 s1 s2 (.int .i64 x) (.int .i64 y); binOp .lss 3 (.int .i64 x) (.int .i64 y) : Sem Value).run Try.prog W = .ok (.bool B) W := by rw [← hB]; go_simp
theorem run_lsT (W : World) (s1 s2 : Operand) : (do eqGuard .lss 3 s1 s2 (.int .i64 (-1)) (.int .i64 0); binOp .lss 3 (.int .i64 (-1)) (.int .i64 0) : Sem Value).run Try.prog W = .ok (.bool true) W := by kernel_rfl
theorem run_lsF (W : World) (m : Nat) (s1 s2 : Operand) : (do eqGuard .lss 3 s1 s2 (.int .i64 (m : Int)) (.int .i64 0); binOp .lss 3 (.int .i64 (m : Int)) (.int .i64 0) : Sem Value).run Try.prog W = .ok (.bool false) W := run_lt2 W _ _ _ (decide_eq_false (by omega)) _ _
theorem run_ge (W : World) (x y : Int) (B : Bool) (hB : decide (y ≤ x) = B) (s1 s2 : Operand) : (do eqGuard .geq 3 s1 s2 (.int .i64 x) (.int .i64 y); binOp .geq 3 (.int .i64 x) (.int .i64 y) : Sem Value).run Try.prog W = .ok (.bool B) W := by rw [← hB]; go_simp
theorem run_geF (W : World) (s1 s2 : Operand) : (do eqGuard .geq 3 s1 s2 (.int .i64 (-1)) (.int .i64 0); binOp .geq 3 (.int .i64 (-1)) (.int .i64 0) : Sem Value).run Try.prog W = .ok (.bool false) W := run_ge W _ _ _ (by decide) _ _
theorem run_geT (W : World) (m : Nat) (s1 s2 : Operand) : (do eqGuard .geq 3 s1 s2 (.int .i64 (m : Int)) (.int .i64 0); binOp .geq 3 (.int .i64 (m : Int)) (.int .i64 0) : Sem Value).run Try.prog W = .ok (.bool true) W := run_ge W _ _ _ (decide_eq_true (by omega)) _ _
theorem run_nbb (W : World) (B : Bool) (s1 s2 : Operand) : (do eqGuard .neq 4 s1 s2 (.bool B) (.bool B); binOp .neq 4 (.bool B) (.bool B) : Sem Value).run Try.prog W = .ok (.bool false) W := by cases B <;> kernel_rfl
theorem run_nei (W : World) (x : Int) (s1 s2 : Operand) : (do eqGuard .neq 3 s1 s2 (.int .i64 x) (.int .i64 x); binOp .neq 3 (.int .i64 x) (.int .i64 x) : Sem Value).run Try.prog W = .ok (.bool false) W := by go_simp
theorem run_iix (W : World) (g n c i : Nat) (h : i < n) (hn : n ≤ 2000) : (Instr.indexAt 29 (.slice (some ⟨g, 0, none⟩) n c) (.int .i64 (i : Int))).run Try.prog W = .ok (.pointer (some ⟨g, i * 2, none⟩)) W := by
  have h0 : (0 : Int) ≤ (i : Int) := by omega
  have h1 : (i : Int) < (n : Int) := by omega
  go_simp
theorem new_act (w : World) (k d : Int) : ∃ W', (Instr.storeAt 31 (.pointer (some ⟨w.heap.size, 0, none⟩)) (.agg #[.int .i64 k, .int .i64 d])).run Try.prog (w.alloc (.cells #[.int .i64 0, .int .i64 0] 31)) = .ok () W' ∧ W'.heap[w.heap.size]? = some (.cells #[.int .i64 k, .int .i64 d] 31 (0, 0)) ∧ Below w.heap.size w W' := by
  have h0 := heap_alloc_new w (.cells #[.int .i64 0, .int .i64 0] 31)
  refine ⟨((w.alloc (.cells #[.int .i64 0, .int .i64 0] 31)).setCell ⟨w.heap.size, 0, none⟩ (.int .i64 k)).setCell ⟨w.heap.size, 1, none⟩ (.int .i64 d), ?_, ?_, ?_⟩
  · go_simp
  · exact block_setCell (i := 1) (block_setCell (i := 0) h0)
  · exact (((Below.refl w.heap.size w).alloc (Nat.le_refl _) _).setCell (Nat.le_refl _) _).setCell (Nat.le_refl _) _
theorem new_item (w : World) (k d : Int) : ∃ W', (Instr.storeAt 43 (.pointer (some ⟨w.heap.size, 0, none⟩)) (.agg #[.int .i64 k, .int .i64 d])).run Try.prog (w.alloc (.cells #[.int .i64 0, .int .i64 0] 43)) = .ok () W' ∧ W'.heap[w.heap.size]? = some (.cells #[.int .i64 k, .int .i64 d] 43 (0, 0)) ∧ Below w.heap.size w W' := by
  have h0 := heap_alloc_new w (.cells #[.int .i64 0, .int .i64 0] 43)
  refine ⟨((w.alloc (.cells #[.int .i64 0, .int .i64 0] 43)).setCell ⟨w.heap.size, 0, none⟩ (.int .i64 k)).setCell ⟨w.heap.size, 1, none⟩ (.int .i64 d), ?_, ?_, ?_⟩
  · go_simp
  · exact block_setCell (i := 1) (block_setCell (i := 0) h0)
  · exact (((Below.refl w.heap.size w).alloc (Nat.le_refl _) _).setCell (Nat.le_refl _) _).setCell (Nat.le_refl _) _
theorem two_cells {w : World} {b : Nat} {k d : Int} {t : TypeId} (h : w.heap[b]? = some (.cells #[.int .i64 k, .int .i64 d] t (0, 0))) : w.cell? ⟨b, 0, none⟩ = some (.int .i64 k) ∧ w.cell? ⟨b, 1, none⟩ = some (.int .i64 d) := by
  constructor <;> simp [World.cell?, h]
/-- The state of the law's loop. -/
structure ActS (W w : World) (nb i now : Nat) (sent : Int) (F : List Fl) (v : Value) : Prop where
  nw : now ≤ i
  fl : F.length ≤ i
  st : sent ≤ i
  net : NetX w nb nb now sent F
  row : IRow w nb v (F.map keyF)
  bel : Below W.heap.size W w
def FkA (xb : Nat) (due now : Int) : Nat → Value → Prop
  | 0, x => x = .pointer (some ⟨xb, 0, none⟩)
  | 1, x => x = .int .i64 due
  | 2, x => x = .int .i64 now
  | 3, x => x = .bool false
  | 4, x => x = .bool false
  | 5, x => x = undef
  | 6, x => x = undef
  | 7, x => x = undef
  | 8, x => x = undef
  | 9, x => x = undef
  | 10, x => x = undef
  | 11, x => x = undef
  | 12, x => x = undef
  | 13, x => x = undef
  | 14, x => x = undef
  | 15, x => x = undef
  | 16, x => x = undef
  | _, _ => True
def FkB (xb : Nat) (due now : Int) : Nat → Value → Prop
  | 0, x => x = .pointer (some ⟨xb, 0, none⟩)
  | 1, x => x = .int .i64 due
  | 2, x => x = .int .i64 now
  | 3, x => x = .bool true
  | 4, x => x = .bool true
  | 5, x => x = .int .i64 (-1)
  | 6, x => x = .bool true
  | 7, x => x = .bool true
  | 8, x => x = undef
  | 9, x => x = undef
  | 10, x => x = undef
  | 11, x => x = undef
  | 12, x => x = undef
  | 13, x => x = undef
  | 14, x => x = undef
  | 15, x => x = undef
  | 16, x => x = .bool true
  | _, _ => True
def FkC (xb g l c m : Nat) (due now due2 : Int) (B : Bool) : Nat → Value → Prop
  | 0, x => x = .pointer (some ⟨xb, 0, none⟩)
  | 1, x => x = .int .i64 due
  | 2, x => x = .int .i64 now
  | 3, x => x = .bool true
  | 4, x => x = .bool true
  | 5, x => x = .int .i64 m
  | 6, x => x = .bool false
  | 7, x => x = .bool false
  | 8, x => x = .pointer (some ⟨xb, 0, none⟩)
  | 9, x => x = .int .i64 due
  | 10, x => x = .slice (some ⟨g, 0, none⟩) l c
  | 11, x => x = .int .i64 m
  | 12, x => x = .pointer (some ⟨g, m * 2, none⟩)
  | 13, x => x = .pointer (some ⟨g, m * 2, none⟩)
  | 14, x => x = .int .i64 due2
  | 15, x => x = .bool B
  | 16, x => x = .bool B
  | _, _ => True
def FmN : Nat → Value → Prop
  | 0, x => x = .bool false
  | 1, x => x = .int .i64 (-1)
  | 2, x => x = .bool false
  | 3, x => x = .bool false
  | 4, x => x = .bool false
  | 5, x => x = .bool false
  | 6, x => x = .bool false
  | 7, x => x = undef
  | 8, x => x = undef
  | 9, x => x = undef
  | 10, x => x = undef
  | 11, x => x = undef
  | 12, x => x = undef
  | 13, x => x = undef
  | 14, x => x = undef
  | 15, x => x = .bool false
  | _, _ => True
def FmS (mb g l c m : Nat) (ix : Int) : Nat → Value → Prop
  | 0, x => x = .bool true
  | 1, x => x = .int .i64 m
  | 2, x => x = .bool true
  | 3, x => x = .bool false
  | 4, x => x = .bool false
  | 5, x => x = .bool true
  | 6, x => x = .bool true
  | 7, x => x = .pointer (some ⟨mb, 4, none⟩)
  | 8, x => x = .int .i64 ix
  | 9, x => x = .slice (some ⟨g, 0, none⟩) l c
  | 10, x => x = .int .i64 m
  | 11, x => x = .pointer (some ⟨g, m * 2, none⟩)
  | 12, x => x = .pointer (some ⟨g, m * 2 + 1, none⟩)
  | 13, x => x = .int .i64 ix
  | 14, x => x = .bool false
  | 15, x => x = .bool false
  | _, _ => True
end Go.Proofs.Ytfijidaohlnphaa
