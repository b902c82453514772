/- A log's memory; operations at fields and numbers. No conditions beyond those in each statement. -/
import Derived.Test.YtigebaaldikeaaaDoorHeadEq
import Derived.Maps.OwnSet
import Derived.Maps.RangeWalk
namespace Go.Proofs.YtigebaaldikeaaaDoor
open Go.RowKit
set_option linter.unusedVariables false
set_option maxRecDepth 100000

/-- An entry. -/
structure En where
  index : Int
  term : Int
  data : ByteArray
def enV (x : En) : Value := .agg #[.int .i64 x.index, .int .i64 x.term, .string x.data]
structure En.Fits (x : En) : Prop where
  index : -9223372036854775808 ≤ x.index ∧ x.index ≤ 9223372036854775807
  term : -9223372036854775808 ≤ x.term ∧ x.term ≤ 9223372036854775807
  data : x.data.size ≤ maxLen
/-- The numbers of a log. -/
structure Lg where
  base : Int
  size : Int
  first : Int
  count : Int
/-- A log's block: the device, the numbers, the two maps. -/
def LogB (w : World) (b B bt bd : Nat) (L : Lg) : Prop :=
  w.heap[b]? = some (.cells #[.pointer (some ⟨B, 0, none⟩), .int .i64 L.base, .int .i64 L.size, .int .i64 L.first, .int .i64 L.count, .map (some bt), .map (some bd)] 100 (0, 0))
section
variable {w w' : World} {b B bt bd : Nat} {L : Lg}
theorem LogB.lt (h : LogB w b B bt bd L) : b < w.heap.size := lt_of_block h
theorem LogB.below (h : LogB w b B bt bd L) (k : Below w.heap.size w w') : LogB w' b B bt bd L := (k.block b h.lt).trans h
theorem LogB.keep {E : Nat → Prop} (h : LogB w b B bt bd L) (k : Kept E w w') (hb : E b) : LogB w' b B bt bd L := (k b hb).trans h
theorem LogB.drew (h : LogB w b B bt bd L) : LogB w.drew b B bt bd L := h
theorem LogB.cells (h : LogB w b B bt bd L) :
    (w.cell? ⟨b, 0, none⟩ = some (.pointer (some ⟨B, 0, none⟩)) ∧ w.cell? ⟨b, 1, none⟩ = some (.int .i64 L.base) ∧ w.cell? ⟨b, 2, none⟩ = some (.int .i64 L.size) ∧ w.cell? ⟨b, 3, none⟩ = some (.int .i64 L.first) ∧ w.cell? ⟨b, 4, none⟩ = some (.int .i64 L.count) ∧ w.cell? ⟨b, 5, none⟩ = some (.map (some bt)) ∧ w.cell? ⟨b, 6, none⟩ = some (.map (some bd))) ∧
    w.frozen? ⟨b, 3, none⟩ = false ∧ w.frozen? ⟨b, 4, none⟩ = false :=
  ⟨⟨cell_of h rfl, cell_of h rfl, cell_of h rfl, cell_of h rfl, cell_of h rfl, cell_of h rfl, cell_of h rfl⟩, free_of h, free_of h⟩
theorem LogB.setCount (h : LogB w b B bt bd L) (c : Int) : LogB (w.setCell ⟨b, 4, none⟩ (.int .i64 c)) b B bt bd { L with count := c } := block_setCell (i := 4) h
theorem LogB.setFirst (h : LogB w b B bt bd L) (c : Int) : LogB (w.setCell ⟨b, 3, none⟩ (.int .i64 c)) b B bt bd { L with first := c } := block_setCell (i := 3) h
end
theorem run_neqN (W : World) (s1 s2 : Operand) : (do eqGuard .neq 49 s1 s2 (.pointer none) (.pointer none); binOp .neq 49 (.pointer none) (.pointer none) : Sem Value).run Tryd.prog W = .ok (.bool false) W := by go_simp
theorem run_neqP (W : World) (b : Nat) (s1 s2 : Operand) : (do eqGuard .neq 49 s1 s2 (.pointer (some ⟨b, 0, none⟩)) (.pointer none); binOp .neq 49 (.pointer (some ⟨b, 0, none⟩)) (.pointer none) : Sem Value).run Tryd.prog W = .ok (.bool true) W := by go_simp
theorem run_lgf0 (W : World) (b : Nat) : (Instr.fieldAt 100 (.pointer (some ⟨b, 0, none⟩)) 0).run Tryd.prog W = .ok (.pointer (some ⟨b, 0, none⟩)) W := by go_simp
theorem run_lgf3 (W : World) (b : Nat) : (Instr.fieldAt 100 (.pointer (some ⟨b, 0, none⟩)) 3).run Tryd.prog W = .ok (.pointer (some ⟨b, 3, none⟩)) W := by go_simp
theorem run_lgf4 (W : World) (b : Nat) : (Instr.fieldAt 100 (.pointer (some ⟨b, 0, none⟩)) 4).run Tryd.prog W = .ok (.pointer (some ⟨b, 4, none⟩)) W := by go_simp
theorem run_geqI (W : World) (x y : Int) (B : Bool) (h : decide (y ≤ x) = B) (s1 s2 : Operand) : (do eqGuard .geq 3 s1 s2 (.int .i64 x) (.int .i64 y); binOp .geq 3 (.int .i64 x) (.int .i64 y) : Sem Value).run Tryd.prog W = .ok (.bool B) W := by go_simp
theorem run_lssI (W : World) (x y : Int) (B : Bool) (h : decide (x < y) = B) (s1 s2 : Operand) : (do eqGuard .lss 3 s1 s2 (.int .i64 x) (.int .i64 y); binOp .lss 3 (.int .i64 x) (.int .i64 y) : Sem Value).run Tryd.prog W = .ok (.bool B) W := by go_simp
theorem run_leqI (W : World) (x y : Int) (B : Bool) (h : decide (x ≤ y) = B) (s1 s2 : Operand) : (do eqGuard .leq 3 s1 s2 (.int .i64 x) (.int .i64 y); binOp .leq 3 (.int .i64 x) (.int .i64 y) : Sem Value).run Tryd.prog W = .ok (.bool B) W := by go_simp
theorem run_subI (W : World) (x y z : Int) (h : IntKind.i64.wrap (x - y) = z) (s1 s2 : Operand) : (do eqGuard .sub 3 s1 s2 (.int .i64 x) (.int .i64 y); binOp .sub 3 (.int .i64 x) (.int .i64 y) : Sem Value).run Tryd.prog W = .ok (.int .i64 z) W := by go_simp
/-- Is there an entry with this index? -/
def Lg.has (L : Lg) (i : Int) : Bool := decide (L.first ≤ i ∧ i - L.first < L.count)
def Lg.hasNext (L : Lg) (i : Int) : Bool := decide (L.first ≤ i ∧ i - L.first ≤ L.count)
end Go.Proofs.YtigebaaldikeaaaDoor
