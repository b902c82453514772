/- The closure of the law's Do. No conditions beyond those in each statement. -/
import Derived.Test.YtbbdokfankgllaaDoorWModD
namespace Go.Proofs.YtbbdokfankgllaaDoor
open Go.RowKit Go.Maps
set_option linter.unusedVariables false
set_option linter.unusedSimpArgs false
set_option maxRecDepth 100000

theorem doc_any (s n m : Int) (sb ab : Nat) (x : Ev) (w : World) (h1 : w.cell? ⟨sb, 0, none⟩ = some (.int .i64 s)) (h2 : w.cell? ⟨ab, 2, none⟩ = some (.int .i64 n)) (hm : bits .and .i64 n 15 = m) :
    Calls Tryd.prog 22 #[evV x, .pointer (some ⟨sb, 0, none⟩), .pointer (some ⟨ab, 0, none⟩)] w fun e w' => e = .returned (.bool (notB s m x)) ∧ Below w.heap.size w w' := by
  have bA := (Below.refl w.heap.size w).alloc (Nat.le_refl _) (.cells #[.int .i64 x.ses, .int .i64 x.no, .string x.path, .int .i64 x.what, .int .i64 x.when] 50)
  have hs : sb < w.heap.size := World.block_lt_of_cell? w _ h1
  have hn : ab < w.heap.size := World.block_lt_of_cell? w _ h2
  have k1 := (bA.cell (p := ⟨sb, 0, none⟩) hs).trans h1
  have k2 := (bA.cell (p := ⟨ab, 2, none⟩) hn).trans h2
  unfold evV
  cases e1 : (x.ses == s) with
  | false =>
    have HR : Hid (notB s m x = false) := Lib.hid (by unfold notB; rw [e1]; rfl)
    go_enter Tryd.func22, Tryd.ntmps22
    go_wp2_with fail
    go_ret
    rw [HR.out]; exact ⟨rfl, bA⟩
  | true =>
    cases e2 : decide (x.no ≤ m) with
    | false =>
      have HR : Hid (notB s m x = false) := Lib.hid (by unfold notB; rw [e1, e2]; rfl)
      go_enter Tryd.func22, Tryd.ntmps22
      go_wp2_with fail
      go_ret
      rw [HR.out]; exact ⟨rfl, bA⟩
    | true =>
      have HR : Hid (notB s m x = true) := Lib.hid (by unfold notB; rw [e1, e2]; rfl)
      go_enter Tryd.func22, Tryd.ntmps22
      go_wp2_with fail
      go_ret
      rw [HR.out]; exact ⟨rfl, bA⟩
end Go.Proofs.YtbbdokfankgllaaDoor
