/- A device that holds no list; in pure words. No conditions beyond those in each statement. -/
import Derived.Test.YtiknfifiglooeaaDoorChunkNo
namespace Go.Proofs.YtiknfifiglooeaaDoor
open Go Go.RowKit Go.Proofs.Tryd
set_option linter.unusedVariables false
set_option maxRecDepth 100000

theorem listF_none {r : Rc} (h : r.kind ≠ 4) : listF r = ls0 := by unfold listF; exact if_neg (fun e => h e.1)
theorem copyF_none {D : Dv} {q : Int} (h : (D.sread q).1.kind ≠ 4) (h0 : (D.sread q).2.2 = 0) : copyF D q = (ls0, 0) := by unfold copyF; rw [if_pos h0, listF_none h]
theorem openF_none {D : Dv} {base : Int} (h : ∀ q, base ≤ q → q < base + 132 → (D.sread q).1.kind ≠ 4 ∧ (D.sread q).2.2 = 0) : openF D base opnQ (ls0, 0) = ((ls0, 0), 0) := by
  have hc : ∀ ar n : Int, 0 ≤ ar → ar ≤ 1 → 0 ≤ n → n ≤ 1 → copyF D (base + ar * 66 + n) = (ls0, 0) := fun ar n h1 h2 h3 h4 => by
    obtain ⟨k1, k2⟩ := h (base + ar * 66 + n) (by omega) (by omega)
    exact copyF_none k1 k2
  have hs : ∀ ar n : Int, 0 ≤ ar → ar ≤ 1 → 0 ≤ n → n ≤ 1 → openS D base ar n (ls0, 0) = (ls0, 0) := fun ar n h1 h2 h3 h4 => by
    unfold openS
    rw [hc ar n h1 h2 h3 h4]
    exact if_neg (by show ¬ (0 : Int) < 0; omega)
  unfold opnQ
  rw [openF_cons, hc 0 0 (by omega) (by omega) (by omega) (by omega), if_pos rfl, hs 0 0 (by omega) (by omega) (by omega) (by omega),
    openF_cons, hc 0 1 (by omega) (by omega) (by omega) (by omega), if_pos rfl, hs 0 1 (by omega) (by omega) (by omega) (by omega),
    openF_cons, hc 1 0 (by omega) (by omega) (by omega) (by omega), if_pos rfl, hs 1 0 (by omega) (by omega) (by omega) (by omega),
    openF_cons, hc 1 1 (by omega) (by omega) (by omega) (by omega), if_pos rfl, hs 1 1 (by omega) (by omega) (by omega) (by omega)]
  rfl
end Go.Proofs.YtiknfifiglooeaaDoor
