/- Numbered nodes with owners; a node below one for a moment. No conditions beyond those in each statement. -/
import Derived.Test.YtnobblfjhhngiaaDoorTreeBools
import Derived.Test.YtnobblfjhhngiaaDoorTreeOwned
namespace Go.Proofs.YtnobblfjhhngiaaDoor
open Go.RowKit Go.Maps Go.Sort
set_option linter.unusedVariables false
set_option maxRecDepth 100000

/-- The path below the k-th node. -/
def zP (k : Nat) : List UInt8 := nP k ++ [47, 120]
theorem zP_len (k : Nat) : (zP k).length = 14 := by simp [zP, nP_len]
theorem zP_ne (k : Nat) : zP k ≠ [47] := fun e => by have := congrArg List.length e; rw [zP_len] at this; exact absurd this (by decide)
theorem zP_nP (k i : Nat) : zP k ≠ nP i := fun e => by have := congrArg List.length e; rw [zP_len, nP_len] at this; exact absurd this (by decide)
theorem zP_eq (k : Nat) : zP k = nP k ++ 47 :: [120] := rfl
theorem zP_up (k : Nat) : upP (zP k) = nP k := by
  rw [zP_eq, (upP_app (by decide) (zP_ne k)).1]; unfold upB; rw [if_neg (fun e => by have := congrArg List.length e; rw [nP_len] at this; simp at this)]
theorem zP_check (k : Nat) : checkL (zP k) = true := by
  have e : zP k = 47 :: ((110 :: dig 10 k) ++ 47 :: [120]) := rfl
  rw [e, checkL_on (by simp) (by simp [dig_len]), pieces_app _ _ (nP_last k)]
  have h1 : partL (110 :: dig 10 k) = true := by
    unfold partL
    have h1 : (110 :: dig 10 k).all okU = true := by
      rw [List.all_eq_true]; intro c hc
      rcases List.mem_cons.1 hc with h2 | h2
      · rw [h2]; decide
      · exact dig_ok _ _ c h2
    rw [h1]; simp [dig_len]
  have h2 : pieces [120] = [[120]] := by decide
  have h3 : partL [120] = true := by decide
  rw [h2]; simp [h1, h3]
/-- Whose the nodes are. -/
def OwnI (k : Nat) (f : Nat → Int) (T : List UInt8 → Option Nd) : Prop := ∀ i, i < k → ∃ n, T (nP i) = some n ∧ n.owner = f i
theorem own_mem {k : Nat} {b : Int} {T : List UInt8 → Option Nd} {f : Nat → Int} (h : SInv k b T) (ho : OwnI k f T) {o : Int} (h0 : o ≠ 0) (x : List UInt8) : (∃ n, T x = some n ∧ n.owner = o) ↔ ∃ i, i < k ∧ x = nP i ∧ f i = o := by
  constructor
  · rintro ⟨n, hn, hno⟩
    rcases h.keys _ _ hn with h1 | ⟨i, hi, h1⟩
    · rw [h1, h.root] at hn; cases hn; exact absurd hno.symm h0
    · obtain ⟨m, hm, hmo⟩ := ho i hi
      rw [h1, hm] at hn; injection hn with hn
      exact ⟨i, hi, h1, by rw [← hmo, hn]; exact hno⟩
  · rintro ⟨i, hi, rfl, hf⟩
    obtain ⟨m, hm, hmo⟩ := ho i hi
    exact ⟨m, hm, by rw [hmo]; exact hf⟩
def cntF (f : Nat → Int) (k : Nat) (j : Int) : Nat := ((List.range k).filter (fun i => f i == j)).length
theorem cntF_succ (f : Nat → Int) (k : Nat) (j : Int) : cntF f (k + 1) j = cntF f k j + if f k = j then 1 else 0 := by
  unfold cntF; rw [List.range_succ, List.filter_append, List.length_append]
  by_cases h : f k = j
  · simp [h]
  · simp [h]
theorem cntF_le (f : Nat → Int) (k : Nat) (j : Int) : cntF f k j ≤ k := by
  unfold cntF; have := List.length_filter_le (fun i => f i == j) (List.range k); simpa using this
theorem own_len {k : Nat} (hk : k ≤ 100) {f : Nat → Int} {o : Int} {ss : List (List UInt8)} (h : ss.Nodup) (hm : ∀ x, x ∈ ss ↔ ∃ i, i < k ∧ x = nP i ∧ f i = o) : ss.length = cntF f k o := by
  have hp : ss.Perm (((List.range k).filter (fun i => f i == o)).map nP) := by
    refine (List.perm_ext_iff_of_nodup h ?_).2 fun x => ?_
    · refine List.pairwise_map.2 (List.Pairwise.imp_of_mem (fun {a b} ha hb hab e => hab ?_) (List.Pairwise.filter _ List.nodup_range))
      exact nP_inj (by have := List.mem_range.1 (List.mem_filter.1 ha).1; omega) (by have := List.mem_range.1 (List.mem_filter.1 hb).1; omega) e
    · rw [hm x, List.mem_map]
      constructor
      · rintro ⟨i, hi, hx, hf⟩; exact ⟨i, List.mem_filter.2 ⟨List.mem_range.2 hi, by simpa using hf⟩, hx.symm⟩
      · rintro ⟨i, hi, hx⟩
        have := List.mem_filter.1 hi
        exact ⟨i, List.mem_range.1 this.1, hx.symm, by simpa using this.2⟩
  rw [hp.length_eq, List.length_map]; rfl
theorem OwnI.one {k : Nat} {b : Int} {T : List UInt8 → Option Nd} {f : Nat → Int} (ho : OwnI k f T) (hk : k ≤ 90) {o : Int} (hf : f k = o) : OwnI (k + 1) f (oneS T k b o) := by
  intro i hi
  unfold oneS
  by_cases e : i = k
  · subst e; exact ⟨_, updN_same _ _ _, hf.symm⟩
  · rw [updN_other (fun e2 => e (nP_inj (by omega) (by omega) e2)), updN_other (nP_ne i)]
    exact ho i (by omega)
theorem one_at (T : List UInt8 → Option Nd) (k : Nat) (b o : Int) : oneS T k b o (nP k) = some (newC ⟨#[]⟩ o ((k : Int) + 1)) := updN_same _ _ _
theorem SInv.noZ {k : Nat} {b : Int} {T : List UInt8 → Option Nd} (h : SInv k b T) (j : Nat) : T (zP j) = none := by
  cases e : T (zP j) with
  | none => rfl
  | some n =>
    rcases h.keys _ _ e with h1 | ⟨i, hi, h1⟩
    · exact absurd h1 (zP_ne j)
    · exact absurd h1 (zP_nP j i)
/-- Below a node with an owner nothing is made. -/
theorem make_own (T : List UInt8 → Option Nd) (k c : Nat) (b o t : Int) (h0 : o ≠ 0) : createN (oneS T k b o) c (zP k) ⟨#[]⟩ 0 t false = ⟨[], 15, oneS T k b o, c⟩ := by
  have hg : getN (oneS T k b o) (nP k) = (newC ⟨#[]⟩ o ((k : Int) + 1), 0) := by unfold getN; rw [nP_check, one_at]; rfl
  have hp : placeN (oneS T k b o) (zP k) ⟨#[]⟩ = ([], Nd.zero, 15) := by
    unfold placeN
    rw [if_neg (by rw [zP_check]; decide), if_neg (zP_ne k), if_neg (by decide), zP_up, hg, if_neg (fun h => h rfl), if_pos (show (newC ⟨#[]⟩ o ((k : Int) + 1)).owner ≠ 0 from h0)]
  unfold createN
  rw [hp, if_pos (by decide)]
/-- The nodes with the one below. -/
def twoS (T : List UInt8 → Option Nd) (k : Nat) (b : Int) : List UInt8 → Option Nd := updN (updN (oneS T k b 0) (nP k) (some (upC (newC ⟨#[]⟩ 0 ((k : Int) + 1))))) (zP k) (some (newC ⟨#[]⟩ 0 ((k : Int) + 1)))
theorem make_free {T : List UInt8 → Option Nd} {k c : Nat} {b : Int} (h : SInv (k + 1) (b + 1) (oneS T k b 0)) (hc : c < 60) : createN (oneS T k b 0) c (zP k) ⟨#[]⟩ 0 ((k : Int) + 1) false = ⟨zP k, 0, twoS T k b, c + 1⟩ := by
  have hg : getN (oneS T k b 0) (nP k) = (newC ⟨#[]⟩ 0 ((k : Int) + 1), 0) := by unfold getN; rw [nP_check, one_at]; rfl
  have hp : placeN (oneS T k b 0) (zP k) ⟨#[]⟩ = (nP k, newC ⟨#[]⟩ 0 ((k : Int) + 1), 0) := by
    unfold placeN
    rw [if_neg (by rw [zP_check]; decide), if_neg (zP_ne k), if_neg (by decide), zP_up, hg, if_neg (fun h => h rfl), if_neg (fun h => h rfl)]
  have hz : getN (oneS T k b 0) (zP k) = (Nd.zero, 11) := by unfold getN; rw [zP_check, h.noZ]; rfl
  unfold createN
  rw [hp]
  simp only [pathC, hz]
  simp only [Bool.false_eq_true, if_false]
  rw [if_neg (by decide), hz, if_neg (by decide), if_neg (by decide), if_neg (by omega)]
  rfl
theorem two_small {T : List UInt8 → Option Nd} {k : Nat} {b : Int} (h : SInv (k + 1) (b + 1) (oneS T k b 0)) : SmallT (twoS T k b) := SmallT.upd (SmallT.upd h.small _ _ (by unfold upC newC; simp)) _ _ (by unfold newC; simp)
theorem two_keys {T : List UInt8 → Option Nd} {k : Nat} {b : Int} (h : SInv (k + 1) (b + 1) (oneS T k b 0)) : KeysOk (twoS T k b) := (h.ok.upd (nP_check k) _).upd (zP_check k) _
theorem two_up {T : List UInt8 → Option Nd} {k : Nat} {b : Int} (h : SInv (k + 1) (b + 1) (oneS T k b 0)) : ∀ x n, twoS T k b x = some n → upP x ≠ zP k := by
  have hroot : [47] ≠ zP k := fun e => zP_ne k e.symm
  intro x n hx
  unfold twoS at hx
  by_cases e : x = zP k
  · rw [e, zP_up]; exact fun e => zP_nP k k e.symm
  · rw [updN_other e] at hx
    by_cases e2 : x = nP k
    · rw [e2, nP_up]; exact hroot
    · rw [updN_other e2] at hx
      rcases h.keys _ _ hx with h1 | ⟨i, _, h1⟩
      · rw [h1]; intro e; have := congrArg List.length e; rw [zP_len] at this; exact absurd this (by decide)
      · rw [h1, nP_up]; exact hroot
theorem two_at (T : List UInt8 → Option Nd) (k : Nat) (b : Int) : twoS T k b (zP k) = some (newC ⟨#[]⟩ 0 ((k : Int) + 1)) := updN_same _ _ _
theorem two_par (T : List UInt8 → Option Nd) (k : Nat) (b : Int) : twoS T k b (nP k) = some (upC (newC ⟨#[]⟩ 0 ((k : Int) + 1))) := by
  unfold twoS; rw [updN_other (fun e => zP_nP k k e.symm), updN_same]
def goneS (T : List UInt8 → Option Nd) (k : Nat) (b : Int) : List UInt8 → Option Nd := lessN (twoS T k b) (zP k) (upC (newC ⟨#[]⟩ 0 ((k : Int) + 1)))
theorem gone_other {T : List UInt8 → Option Nd} {k : Nat} {b : Int} {x : List UInt8} (h1 : x ≠ nP k) (h2 : x ≠ zP k) : goneS T k b x = oneS T k b 0 x := by
  unfold goneS lessN twoS
  rw [zP_up, updN_other h1, updN_other h2, updN_other h2, updN_other h1]
theorem gone_at (T : List UInt8 → Option Nd) (k : Nat) (b : Int) : goneS T k b (nP k) = some (upC (upC (newC ⟨#[]⟩ 0 ((k : Int) + 1)))) := by
  unfold goneS lessN; rw [zP_up, updN_same]
theorem gone_z (T : List UInt8 → Option Nd) (k : Nat) (b : Int) : goneS T k b (zP k) = none := by
  unfold goneS lessN; rw [zP_up, updN_other (zP_nP k k), updN_same]
theorem gone_inv {T : List UInt8 → Option Nd} {k : Nat} {b : Int} (h : SInv (k + 1) (b + 1) (oneS T k b 0)) : SInv (k + 1) (b + 1) (goneS T k b) := by
  refine ⟨?_, fun x n hx => ?_, fun x n hx => ?_⟩
  · rw [gone_other (fun e => nP_ne k e.symm) (fun e => zP_ne k e.symm)]; exact h.root
  · by_cases e : x = nP k
    · exact .inr ⟨k, by omega, e⟩
    · by_cases e2 : x = zP k
      · rw [e2, gone_z] at hx; cases hx
      · rw [gone_other e e2] at hx; exact h.keys _ _ hx
  · by_cases e : x = nP k
    · rw [e, gone_at] at hx; cases hx; unfold upC newC; simp
    · by_cases e2 : x = zP k
      · rw [e2, gone_z] at hx; cases hx
      · rw [gone_other e e2] at hx; exact h.small _ _ hx
theorem gone_own {T : List UInt8 → Option Nd} {k : Nat} {b : Int} {f : Nat → Int} (h : OwnI (k + 1) f (oneS T k b 0)) (hf : f k = 0) (hk : k ≤ 90) : OwnI (k + 1) f (goneS T k b) := by
  intro i hi
  by_cases e : i = k
  · subst e; exact ⟨_, gone_at _ _ _, hf.symm⟩
  · rw [gone_other (fun e2 => e (nP_inj (by omega) (by omega) e2)) (fun e2 => zP_nP k i e2.symm)]
    exact h i hi
/-- The four counts. -/
def CB (w : World) (cb : Nat) (n : Nat → Nat) : Prop := w.heap[cb]? = some (.cells #[.int .i64 (n 0 : Int), .int .i64 (n 1 : Int), .int .i64 (n 2 : Int), .int .i64 (n 3 : Int)] 3 (0, 0))
theorem CB.lt {w : World} {cb : Nat} {n : Nat → Nat} (h : CB w cb n) : cb < w.heap.size := (Array.getElem?_eq_some_iff.1 h).1
theorem CB.below {w x : World} {cb : Nat} {n : Nat → Nat} (h : CB w cb n) (hb : Below w.heap.size w x) : CB x cb n := (hb.block cb (CB.lt h)).trans h
theorem CB.left {w x : World} {cb mb : Nat} {n : Nat → Nat} (h : CB w cb n) (hg : w.grownBy x (some mb)) (hne : cb ≠ mb) : CB x cb n := (hg.block cb (CB.lt h) (fun e => hne (Option.some.inj e))).trans h
theorem CB.cells {w : World} {cb : Nat} {n : Nat → Nat} (h : CB w cb n) : (w.cell? ⟨cb, 0, none⟩ = some (.int .i64 (n 0 : Int)) ∧ w.cell? ⟨cb, 1, none⟩ = some (.int .i64 (n 1 : Int)) ∧ w.cell? ⟨cb, 2, none⟩ = some (.int .i64 (n 2 : Int)) ∧ w.cell? ⟨cb, 3, none⟩ = some (.int .i64 (n 3 : Int))) ∧
    (w.frozen? ⟨cb, 0, none⟩ = false ∧ w.frozen? ⟨cb, 1, none⟩ = false ∧ w.frozen? ⟨cb, 2, none⟩ = false ∧ w.frozen? ⟨cb, 3, none⟩ = false) := by
  unfold CB at h
  simp [World.cell?, World.frozen?, h]
def incN (n : Nat → Nat) (j : Nat) : Nat → Nat := fun i => if i = j then n i + 1 else n i
theorem CB.inc {w : World} {cb : Nat} {n : Nat → Nat} (h : CB w cb n) (j : Nat) (hj : j < 4) : CB (w.setCell ⟨cb, j, none⟩ (.int .i64 ((n j : Int) + 1))) cb (incN n j) := by
  unfold CB at h ⊢
  have h1 := bset (i := j) (u := .int .i64 ((n j : Int) + 1)) h
  have : j = 0 ∨ j = 1 ∨ j = 2 ∨ j = 3 := by omega
  rcases this with rfl | rfl | rfl | rfl <;>
  · simp only [List.setIfInBounds_toArray, List.set_cons_zero, List.set_cons_succ] at h1
    simpa [incN] using h1
theorem cnt_inc (f : Nat → Int) (k j : Nat) (h : f k = (j : Int)) : incN (fun i : Nat => cntF f k (i : Int)) j = fun i : Nat => cntF f (k + 1) (i : Int) := by
  funext i
  unfold incN
  simp only
  rw [cntF_succ, h]
  by_cases e : i = j
  · subst e; simp
  · rw [if_neg e, if_neg (fun e2 => e (by omega))]; rfl
theorem owned_zero (p : Value) (w : World) : Calls Tryd.prog 17 #[p, .int .i64 0] w fun e w' => e = .returned (.slice none 0 0) ∧ w' = w := by
  go_enter Tryd.func17, Tryd.ntmps17
  go_wp2_with fail
  go_ret
  exact ⟨rfl, rfl⟩
theorem str_less (x y : List UInt8) (h : leB x y = true) (hne : x ≠ y) : Op.bytesLess (bs x).toList (bs y).toList = true := by
  rw [Lib.toList_data, Lib.toList_data, bs_list, bs_list, bytesLess_eq]
  simp only [leB, decide_eq_true_eq] at h ⊢
  rcases Decidable.em (x < y) with h1 | h1
  · exact h1
  · exact absurd (List.le_antisymm h (List.not_lt.1 h1)) hne
end Go.Proofs.YtnobblfjhhngiaaDoor
