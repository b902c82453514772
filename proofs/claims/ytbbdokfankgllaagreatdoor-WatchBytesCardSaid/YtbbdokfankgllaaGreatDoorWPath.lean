/- Made paths: Up's answer; the check. No conditions beyond those in each statement. -/
import Derived.Test.YtbbdokfankgllaaGreatDoorWFew
import Derived.Test.YtbbdokfankgllaaGreatDoorPathAll
namespace Go.Proofs.YtbbdokfankgllaaGreatDoor
open Go.RowKit
set_option linter.unusedVariables false
set_option maxRecDepth 100000

/-- A made path. -/
def mkP (ns : List Int) : ByteArray := bs (madeL (wsOf ns))
theorem upB_bodyW (ns : List Int) : upB (bodyL (wsOf ns)) = madeL (wsOf ns) := by
  unfold upB madeL
  by_cases h : wsOf ns = []
  · rw [if_pos h, if_pos ((bodyL_nil _).2 h)]
  · rw [if_neg h, if_neg (fun e => h ((bodyL_nil _).1 e))]
theorem made_snocW (l : List Int) (n : Int) : madeL (wsOf (l ++ [n])) = bodyL (wsOf l) ++ 47 :: wordU n := by
  unfold madeL; rw [if_neg (by simp [wsOf])]; rw [show wsOf (l ++ [n]) = wsOf l ++ [wordU n] by simp [wsOf], bodyL_snoc]
/-- Up of a made path answers, the same in every world. -/
theorem up_mkP (a : List Int) (ha : a.length ≤ 12) : ∃ u l : ByteArray, ∀ W : World, Calls Tryz.prog 48 #[.string (mkP a)] W fun e w' => e = .returned (.tuple #[.string u, .string l]) ∧ ∃ n, w' = W.drewN n := by
  unfold mkP
  rcases List.eq_nil_or_concat a with rfl | ⟨l0, n, rfl⟩
  · exact ⟨bs [], bs [], fun W => up_root W⟩
  · refine ⟨bs (madeL (wsOf l0)), bs (wordU n), fun W => ?_⟩
    have hw := word_len (n % 18446744073709551616)
    have := up_any (bodyL (wsOf l0)) (wordU n) W (word_noslash _) (by have := bodyL_len l0; simp at ha; omega) (by unfold wordU; omega) (fun _ e => by unfold wordU at e; rw [e] at hw; simp at hw)
    rw [upB_bodyW] at this
    rw [show l0.concat n = l0 ++ [n] by simp, made_snocW]; exact this
theorem chk_mkP (a : List Int) (ha : a.length ≤ 12) : checkE (mkP a).data.toList = 0 := by
  have : (mkP a).data.toList = madeL (wsOf a) := by unfold mkP bs; simp
  rw [this]
  unfold checkE
  rw [if_pos (check_made (wsOf_wd a) (wsOf_part a) (by have := made_len a; omega))]
end Go.Proofs.YtbbdokfankgllaaGreatDoor
