/- The parent of a path is a path. No conditions beyond those in each statement. -/
import Derived.Test.YtblcpihfnpgfiaaGreatDoorTreeModA
namespace Go.Proofs.YtblcpihfnpgfiaaGreatDoor
open Go.RowKit Go.Maps Go.Sort
set_option linter.unusedVariables false
set_option linter.unusedSimpArgs false
set_option maxRecDepth 100000

theorem pieces_snoc : ∀ (x q : List UInt8), (47 : UInt8) ∉ q → pieces (x ++ 47 :: q) = pieces x ++ [q] := by
  intro x
  induction h : x.length using Nat.strongRecOn generalizing x with
  | ind n ih =>
    intro q hq
    by_cases hx : (47 : UInt8) ∈ x
    · obtain ⟨a, b, rfl, ha⟩ : ∃ a b, x = a ++ 47 :: b ∧ (47 : UInt8) ∉ a := by
        clear ih h
        induction x with
        | nil => cases hx
        | cons c l ihl =>
          by_cases hc : c = 47
          · subst hc; exact ⟨[], l, rfl, by simp⟩
          · obtain ⟨a, b, e, ha⟩ := ihl ((List.mem_cons.1 hx).resolve_left (fun e => hc e.symm))
            exact ⟨c :: a, b, by rw [e]; rfl, by simp [Ne.symm hc, ha]⟩
      rw [List.append_assoc, List.cons_append, pieces_app a _ ha, pieces_app a _ ha, ih b.length (by subst h; simp; omega) b rfl q hq]
      rfl
    · rw [pieces_app x q hx, pieces_none q hq, pieces_none x hx]; rfl
theorem check_up {z : List UInt8} (h : checkL z = true) (hr : z ≠ [47]) : checkL (upP z) = true := by
  obtain ⟨x, q, rfl, hq, hne, hl⟩ := check_split h hr
  rw [(upP_app hq hr).1]
  unfold upB
  by_cases hx : x = []
  · rw [if_pos hx]; decide
  · rw [if_neg hx]
    cases x with
    | nil => exact absurd rfl hx
    | cons c l =>
      have h47 : c = 47 := by
        unfold checkL at h; simp at h; simp [h]
      subst h47
      have h3 : (pieces (l ++ 47 :: q)).all partL = true := by
        rw [← checkL_on (l := l ++ 47 :: q) (by simp) (by simpa using hl)]; exact h
      simp at hl
      by_cases hl2 : l = []
      · subst hl2; decide
      · rw [checkL_on (by simpa using hl2) (by simp; omega)]
        rw [pieces_snoc l q hq] at h3
        rw [List.all_eq_true]
        intro p hp
        exact List.all_eq_true.1 h3 p (by simp [hp])
end Go.Proofs.YtblcpihfnpgfiaaGreatDoor
