/- A tree of nodes with numbers below the root. No conditions beyond those in each statement. -/
import Derived.Test.YtblcpihfnpgfiaaGreatDoorTreeHead
namespace Go.Proofs.YtblcpihfnpgfiaaGreatDoor
open Go.RowKit Go.Maps
set_option linter.unusedVariables false
set_option linter.unusedSimpArgs false
set_option maxRecDepth 100000

/-- The path of the i-th node. -/
def nP (i : Nat) : List UInt8 := [47, 110] ++ dig 10 i
def rootN (j : Nat) : Nd := ⟨⟨#[]⟩, 0, j, 0, 0, 0, j⟩
theorem dig_ok : ∀ k n, ∀ c ∈ dig k n, okU c = true
  | 0, _, c, h => by cases h
  | k + 1, n, c, h => by
    rcases List.mem_append.1 h with h1 | h1
    · exact dig_ok k _ c h1
    · rw [List.mem_singleton.1 h1]
      have hd : n % 10 < 10 := by omega
      generalize n % 10 = d at hd
      have : d = 0 ∨ d = 1 ∨ d = 2 ∨ d = 3 ∨ d = 4 ∨ d = 5 ∨ d = 6 ∨ d = 7 ∨ d = 8 ∨ d = 9 := by omega
      rcases this with rfl | rfl | rfl | rfl | rfl | rfl | rfl | rfl | rfl | rfl <;> decide
theorem dig_noslash (k n : Nat) : (47 : UInt8) ∉ dig k n := fun h => by
  have := dig_ok k n 47 h; rw [okU_slash] at this; cases this
theorem nP_last (i : Nat) : (47 : UInt8) ∉ (110 :: dig 10 i) := by
  intro h
  rcases List.mem_cons.1 h with h1 | h1
  · exact absurd h1 (by decide)
  · exact dig_noslash _ _ h1
theorem nP_eq (i : Nat) : nP i = [] ++ 47 :: (110 :: dig 10 i) := rfl
theorem nP_check (i : Nat) : checkL (nP i) = true := by
  have e : nP i = 47 :: (110 :: dig 10 i) := rfl
  rw [e, checkL_on (by simp) (by simp [dig_len]), pieces_none _ (nP_last i)]
  have : partL (110 :: dig 10 i) = true := by
    unfold partL
    have h1 : (110 :: dig 10 i).all okU = true := by
      rw [List.all_eq_true]; intro c hc
      rcases List.mem_cons.1 hc with h2 | h2
      · rw [h2]; decide
      · exact dig_ok _ _ c h2
    rw [h1]; simp [dig_len]
  simp [this]
theorem nP_ne (i : Nat) : nP i ≠ [47] := by
  intro h; have := congrArg List.length h; simp [nP, dig_len] at this
theorem nP_up (i : Nat) : upP (nP i) = [47] := by
  rw [nP_eq, (upP_app (nP_last i) (nP_ne i)).1]; rfl
theorem nP_inj {i j : Nat} (hi : i < 10 ^ 10) (hj : j < 10 ^ 10) (h : nP i = nP j) : i = j := dig_inj 10 i j hi hj (List.append_cancel_left h)
theorem nP_len (i : Nat) : (nP i).length = 12 := by simp [nP, dig_len]
/-- The nodes behind j creations. -/
def QT : Nat → List UInt8 → Option Nd
  | 0 => rootT
  | j + 1 => updN (updN (QT j) [47] (some (rootN (j + 1)))) (nP j) (some (newC ⟨#[]⟩ 0 ((j : Int) + 1)))
theorem QT_root : ∀ j, QT j [47] = some (rootN j)
  | 0 => rfl
  | j + 1 => by
    rw [QT, updN_other (fun e => nP_ne j e.symm), updN_same]
theorem QT_none : ∀ j i, j ≤ i → i < 10 ^ 10 → QT j (nP i) = none
  | 0, i, _, _ => by
    rw [QT, rootT, updN_other (nP_ne i)]
  | j + 1, i, h, hi => by
    rw [QT, updN_other (fun e => by have := nP_inj hi (by omega) e; omega), updN_other (nP_ne i)]
    exact QT_none j i (by omega) hi
theorem QT_small : ∀ j, j ≤ 98 → SmallT (QT j)
  | 0, _ => small_root
  | j + 1, h => by
    refine SmallT.upd (SmallT.upd (QT_small j (by omega)) _ _ ?_) _ _ (by unfold newC; simp)
    unfold rootN; simp; omega
theorem root_check : checkL [47] = true := by decide
theorem place_n (T : List UInt8 → Option Nd) (nd : Nd) (hr : T [47] = some nd) (ho : nd.owner = 0) : placeN T [47, 110] ⟨#[]⟩ = ([47], nd, 0) := by
  have h1 : checkL [47, 110] = true := by decide
  have h2 : upP [47, 110] = [47] := by decide
  have h3 : getN T [47] = (nd, 0) := by unfold getN; rw [root_check, hr]; rfl
  unfold placeN
  rw [h2, h3, if_neg (by rw [h1]; decide), if_neg (by decide), if_neg (by decide), if_neg (fun h => h rfl), if_neg (fun h => h ho)]
theorem create_q (j : Nat) (hj : j < 59) : createN (QT j) (j + 1) [47, 110] ⟨#[]⟩ 0 ((j : Int) + 1) true = ⟨nP j, 0, QT (j + 1), j + 2⟩ := by
  have hp := place_n (QT j) (rootN j) (QT_root j) rfl
  have hpath : pathC [47, 110] (rootN j) true = nP j := by unfold pathC rootN nP; simp
  have hg : getN (QT j) (nP j) = (Nd.zero, 11) := by unfold getN; rw [nP_check, QT_none j j (Nat.le_refl _) (by omega)]; rfl
  unfold createN
  rw [hp]
  simp only [hpath, hg]
  rw [if_neg (by decide), if_neg (by decide), if_neg (by decide), if_neg (by omega)]
  rfl
theorem create_full (c : Nat) (hc : 60 ≤ c) (t : Int) : createN (QT 59) c [47, 110] ⟨#[]⟩ 0 t true = ⟨[], 16, QT 59, c⟩ := by
  have hp := place_n (QT 59) (rootN 59) (QT_root 59) rfl
  have hpath : pathC [47, 110] (rootN 59) true = nP 59 := by unfold pathC rootN nP; simp
  have hg : getN (QT 59) (nP 59) = (Nd.zero, 11) := by unfold getN; rw [nP_check, QT_none 59 59 (Nat.le_refl _) (by decide)]; rfl
  unfold createN
  rw [hp]
  simp only [hpath, hg]
  rw [if_neg (by decide), if_neg (by decide), if_neg (by decide), if_pos hc]
end Go.Proofs.YtblcpihfnpgfiaaGreatDoor
