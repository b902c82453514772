/- A message in a row is loaded. No conditions beyond those in each statement. -/
import Derived.Test.YtfijidaohlnphaaNAbs
namespace Go.Proofs.Ytfijidaohlnphaa
open Go.RowKit
set_option linter.unusedVariables false
set_option linter.unusedSimpArgs false
set_option maxRecDepth 100000

theorem info_ms : (Try.prog.info? 41).map (fun i => (i.zero, i.size, i.bytes)) = some (some (.agg (mgA (.slice none 0 0) (.slice none 0 0) Mg.zero)), 17, 176) := by kernel_rfl
theorem und_mss : Try.prog.underlying 48 = some (.slice 41) := by kernel_rfl
def mgOne (ix : Int) : List Value := [.int .i64 0, .int .i64 0, .int .i64 0, .int .i64 0, .int .i64 ix, .int .i64 0, .int .i64 0, .int .i64 0, .slice none 0 0, .bool false, .int .i64 0, .int .i64 0, .int .i64 0, .int .i64 0, .slice none 0 0, .int .i64 0, .string ⟨#[]⟩]
theorem mgOne_len (x : Int) : (mgOne x).length = 17 := rfl
theorem mgOne_one (x : Int) : ∀ v ∈ mgOne x, v.oneCell' = true := by
  intro v hv
  simp only [mgOne, List.mem_cons, List.not_mem_nil, or_false] at hv
  rcases hv with rfl | rfl | rfl | rfl | rfl | rfl | rfl | rfl | rfl | rfl | rfl | rfl | rfl | rfl | rfl | rfl | rfl <;> rfl
/-- A message that lies somewhere in a block is loaded. -/
theorem run_loadAt {W : World} {g o : Nat} {ix : Int} (h : ∀ r v, (mgOne ix)[r]? = some v → W.cell? ⟨g, o + r, none⟩ = some v) : (Instr.loadAt 41 (.pointer (some ⟨g, o, none⟩))).run Try.prog W = .ok (mgV (.slice none 0 0) (.slice none 0 0) (mgI ix)) W := by
  have c0 := h 0 _ rfl
  have c1 := h 1 _ rfl
  have c2 := h 2 _ rfl
  have c3 := h 3 _ rfl
  have c4 := h 4 _ rfl
  have c5 := h 5 _ rfl
  have c6 := h 6 _ rfl
  have c7 := h 7 _ rfl
  have c8 := h 8 _ rfl
  have c9 := h 9 _ rfl
  have c10 := h 10 _ rfl
  have c11 := h 11 _ rfl
  have c12 := h 12 _ rfl
  have c13 := h 13 _ rfl
  have c14 := h 14 _ rfl
  have c15 := h 15 _ rfl
  have c16 := h 16 _ rfl
  rw [Nat.add_zero] at c0
  clear h
  simp [go_sem, c0, c1, c2, c3, c4, c5, c6, c7, c8, c9, c10, c11, c12, c13, c14, c15, c16, mgV, mgI]
end Go.Proofs.Ytfijidaohlnphaa
