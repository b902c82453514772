/- WatchMany: its watches, without memory. No conditions beyond those in each statement. -/
import Derived.Test.YthchpkbojinkeaaDoorWHead
namespace Go.Proofs.YthchpkbojinkeaaDoor
open Go.RowKit Go.Maps Go.Shelf
set_option linter.unusedVariables false
set_option linter.unusedSimpArgs false
set_option maxRecDepth 100000

def wM (i : Nat) : Wa := ⟨i, ⟨#[47]⟩, false, decide (i % 2 = 0)⟩
def lM (m : Nat) : List Wa := (List.range m).map fun i => wM (i + 1)
theorem lM_len (m : Nat) : (lM m).length = m := by simp [lM]
theorem lM_get {m i : Nat} {x : Wa} (h : (lM m)[i]? = some x) : i < m ∧ x = wM (i + 1) := by
  have hl := (List.getElem?_eq_some_iff.1 h).1
  rw [lM_len] at hl
  unfold lM at h
  rw [List.getElem?_map, List.getElem?_range hl] at h
  exact ⟨hl, (Option.some.inj h).symm⟩
theorem lM_at {m i : Nat} (h : i < m) : (lM m)[i]? = some (wM (i + 1)) := by
  unfold lM
  rw [List.getElem?_map, List.getElem?_range h]
  rfl
theorem less_self : ∀ l : List UInt8, Op.bytesLess l l = false
  | [] => rfl
  | a :: l => by
    have ih := less_self l
    unfold Op.bytesLess
    simp [ih]
theorem cmpT_self (x : ByteArray) : cmpT x x = 0 := by
  unfold cmpT
  rw [less_self]
  simp
theorem ordM_lt {i j : Nat} (h : i < j) : orderF (wM i) (wM j) < 0 := by
  have : cmpZ (wM i).ses (wM j).ses = -1 := by
    unfold cmpZ wM
    rw [if_pos (by show (i : Int) < (j : Int); omega)]
  unfold orderF
  rw [this]
  simp [orF]
theorem ordM_eq (i : Nat) : orderF (wM i) (wM i) = 0 := by
  have h1 : cmpZ (wM i).ses (wM i).ses = 0 := by simp [cmpZ]
  have h2 : cmpT (wM i).path (wM i).path = 0 := by
    exact cmpT_self _
  have h3 : ∀ b : Bool, cmpB b b = 0 := fun b => by simp [cmpB]
  unfold orderF
  rw [h1, h2, h3, h3]
  rfl
theorem ordM_gt {i j : Nat} (h : j < i) : ¬ orderF (wM i) (wM j) < 0 := by
  have : cmpZ (wM i).ses (wM j).ses = 1 := by
    unfold cmpZ wM
    rw [if_neg (by show ¬ (i : Int) < (j : Int); omega), if_pos (by show (j : Int) < (i : Int); omega)]
  unfold orderF
  rw [this]
  simp [orF]
theorem monoM (m n : Nat) : Mono (lM m) (wM n) := by
  intro i j x y hij hi hj hlt
  obtain ⟨_, rfl⟩ := lM_get hi
  obtain ⟨_, rfl⟩ := lM_get hj
  refine ordM_lt ?_
  rcases Nat.lt_trichotomy (j + 1) n with h | h | h
  · omega
  · rw [h, ordM_eq] at hlt; exact absurd hlt (by decide)
  · exact absurd hlt (ordM_gt h)
theorem posM (m n : Nat) (hn : 1 ≤ n) : posF (lM m) (wM n) = min m (n - 1) := by
  have hf := found_pos (lM m) (wM n) (monoM m n)
  have hle := hf.le
  rw [lM_len] at hle
  rcases Nat.lt_trichotomy (posF (lM m) (wM n)) (min m (n - 1)) with h | h | h
  · exact absurd (ordM_lt (by omega)) (hf.high _ _ (Nat.le_refl _) (lM_at (i := posF (lM m) (wM n)) (by omega)))
  · exact h
  · have h1 := hf.low (n - 1) _ (by omega) (lM_at (m := m) (by omega))
    rw [show n - 1 + 1 = n by omega, ordM_eq] at h1
    exact absurd h1 (by decide)
theorem badM {n : Nat} (h : 1 ≤ n) (h2 : n ≤ 1000) : badS (wM n) = false := by
  have e1 : decide ((wM n).ses < 1) = false := by
    rw [decide_eq_false_iff_not]; show ¬ (n : Int) < 1; omega
  have e2 : decide (281474976710655 < (wM n).ses) = false := by
    rw [decide_eq_false_iff_not]; show ¬ 281474976710655 < (n : Int); omega
  unfold badS
  rw [e1, e2]
  rfl
theorem chkM (n : Nat) : checkE (wM n).path.data.toList = 0 := by
  show checkE [47] = 0
  decide
theorem lM_succ (m : Nat) : lM (m + 1) = lM m ++ [wM (m + 1)] := by
  unfold lM
  rw [List.range_succ, List.map_append]
  rfl
theorem addM_new {m : Nat} (h : m < 40) : addE (lM m) (wM (m + 1)) = 0 ∧ addL (lM m) (wM (m + 1)) = lM (m + 1) := by
  have hp := posM m (m + 1) (by omega)
  rw [show min m (m + 1 - 1) = m by omega] at hp
  have hb : isB (lM m) (wM (m + 1)) (posF (lM m) (wM (m + 1))) = false := by
    rw [hp]
    unfold isB
    rw [List.getElem?_eq_none (by rw [lM_len]; exact Nat.le_refl _)]
  have h1 := add_new (badM (by omega) (by omega)) (chkM (m + 1)) hb (by rw [lM_len]; exact h)
  rw [hp, List.take_of_length_le (by rw [lM_len]; exact Nat.le_refl _), List.drop_eq_nil_of_le (by rw [lM_len]; exact Nat.le_refl _), ← lM_succ] at h1
  exact h1
theorem addM_old {m n : Nat} (h1 : 1 ≤ n) (h : n ≤ m) (h2 : n ≤ 1000) : addE (lM m) (wM n) = 0 ∧ addL (lM m) (wM n) = lM m := by
  have hp := posM m n h1
  rw [show min m (n - 1) = n - 1 by omega] at hp
  refine add_old (badM h1 h2) (chkM n) ?_
  rw [hp]
  unfold isB
  rw [lM_at (by omega), show n - 1 + 1 = n by omega]
  simp [ordM_eq]
theorem addM_full {n : Nat} (h : 40 < n) (h2 : n ≤ 1000) : addE (lM 40) (wM n) = 16 ∧ addL (lM 40) (wM n) = lM 40 := by
  have hp := posM 40 n (by omega)
  rw [show min 40 (n - 1) = 40 by omega] at hp
  refine add_full (badM (by omega) h2) (chkM n) ?_ (by rw [lM_len]; exact Nat.le_refl _)
  rw [hp]
  unfold isB
  rw [List.getElem?_eq_none (by rw [lM_len]; exact Nat.le_refl _)]
theorem trigM (up : ByteArray) (n : Nat) : trigB ⟨#[47]⟩ up 3 (wM n) = true := by
  simp [trigB, wM]
theorem fireW_M (up : ByteArray) (m : Nat) : (fireW ⟨#[47]⟩ up 3 (lM m)).length = (m + 1) / 2 := by
  induction m with
  | zero => rfl
  | succ m ih =>
    unfold fireW at ih ⊢
    rw [lM_succ, List.filter_append, List.length_append, ih]
    rcases Nat.mod_two_eq_zero_or_one (m + 1) with h | h
    · have : (wM (m + 1)).once = true := by simp [wM, h]
      simp [trigM, this]
      omega
    · have : (wM (m + 1)).once = false := by simp [wM, h]
      simp [trigM, this]
      omega
theorem fireS_ses (up : ByteArray) (when : Int) (m : Nat) (N : Int → Option Int) : (fireS ⟨#[47]⟩ up 3 when (lM m) ([], N)).1.map Ev.ses = (List.range m).map fun i => ((i + 1 : Nat) : Int) := by
  induction m with
  | zero => rfl
  | succ m ih =>
    rw [lM_succ, fireS_app, List.range_succ, List.map_append, ← ih]
    simp only [fireS, List.foldl_cons, List.foldl_nil, fireT, trigM, if_true, List.map_append, List.map_cons, List.map_nil]
    rfl
theorem cntM (m z : Nat) : (((List.range m).map fun i => ((i + 1 : Nat) : Int)).filter fun y => y == (z : Int)).length = if 1 ≤ z ∧ z ≤ m then 1 else 0 := by
  induction m with
  | zero => rw [if_neg (show ¬ (1 ≤ z ∧ z ≤ 0) by omega)]; rfl
  | succ m ih =>
    rw [List.range_succ, List.map_append, List.filter_append, List.length_append, ih]
    by_cases h : z = m + 1
    · have : (((m + 1 : Nat) : Int) == (z : Int)) = true := by rw [h]; simp
      rw [if_neg (show ¬ (1 ≤ z ∧ z ≤ m) by omega), if_pos (show 1 ≤ z ∧ z ≤ m + 1 by omega)]
      rw [List.map_cons, List.map_nil, List.filter_cons, if_pos this]
      rfl
    · have : ¬ (((m + 1 : Nat) : Int) == (z : Int)) = true := by simp; omega
      rw [List.map_cons, List.map_nil, List.filter_cons, if_neg this]
      by_cases h2 : 1 ≤ z ∧ z ≤ m
      · rw [if_pos h2, if_pos (show 1 ≤ z ∧ z ≤ m + 1 by omega)]; rfl
      · rw [if_neg h2, if_neg (show ¬ (1 ≤ z ∧ z ≤ m + 1) by omega)]; rfl
theorem evM (up : ByteArray) (when : Int) (m z : Nat) (N : Int → Option Int) (h1 : 1 ≤ z) (h2 : z ≤ m) : ((fireS ⟨#[47]⟩ up 3 when (lM m) ([], N)).1.filter fun x => x.ses == (z : Int)).length = 1 := by
  have h := cntM m z
  rw [if_pos ⟨h1, h2⟩, ← fireS_ses up when m N, List.filter_map, List.length_map] at h
  exact h
theorem sesM {m : Nat} (hm : m ≤ 1000) (x : Wa) (h : x ∈ lM m) : InR x.ses := by
  obtain ⟨i, hi⟩ := List.getElem?_of_mem h
  obtain ⟨hlt, rfl⟩ := lM_get hi
  show InR ((i + 1 : Nat) : Int)
  unfold InR
  omega
theorem up_r (W : World) : Calls Tryd.prog 22 #[.string ⟨#[47]⟩] W fun e w' => e = .returned (.tuple #[.string (bs []), .string (bs [])]) ∧ ∃ n, w' = W.drewN n := up_root W
end Go.Proofs.YthchpkbojinkeaaDoor
