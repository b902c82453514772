/- Plain facts on what a reader reads of what was laid, and what stands where something was read. No program. -/
import Derived.Test.YtpjbkeheemhlnaaDoorPithMath
namespace Go.Proofs.YtpjbkeheemhlnaaDoor
set_option linter.unusedVariables false

theorem numF_def (n : Nat) (most : Int) (l : List UInt8) : numF n most (some l) = if l.length < n ∨ most < (val (l.take n) : Int) then (0, none) else ((val (l.take n) : Int), some (l.drop n)) := rfl
theorem takeF_def (n : Nat) (l : List UInt8) : takeF n (some l) = if l.length < n then ([], none) else (l.take n, some (l.drop n)) := rfl
theorem numF_be (k n : Nat) (most : Int) (l : List UInt8) (hn : n < 256 ^ k) : numF k most (some (be k n ++ l)) = if (n : Int) ≤ most then ((n : Int), some l) else (0, none) := by
  have h1 : (be k n ++ l).take k = be k n := List.take_left' (be_length k n)
  have h2 : (be k n ++ l).drop k = l := List.drop_left' (be_length k n)
  have h3 : ¬ (be k n ++ l).length < k := by rw [List.length_append, be_length]; omega
  rw [numF_def, h1, h2, val_be_lt k n hn]
  simp only [h3, false_or]
  by_cases h : (n : Int) ≤ most
  · rw [if_neg (by omega), if_pos h]
  · rw [if_pos (by omega), if_neg h]
theorem takeF_app (m l : List UInt8) : takeF m.length (some (m ++ l)) = (m, some l) := by
  rw [takeF_def, if_neg (by simp), List.take_left' rfl, List.drop_left' rfl]
theorem textE_short (m : List UInt8) (hm : m.length ≤ 65535) : textE m = be 2 m.length ++ m := by unfold textE; rw [List.take_of_length_le hm]
theorem textF_E (m l : List UInt8) (most : Int) (hm : m.length ≤ 65535) : textF most (some (textE m ++ l)) = if (m.length : Int) ≤ most then (m, some l) else ([], none) := by
  unfold textF
  rw [textE_short m hm, List.append_assoc, numF_be 2 m.length most (m ++ l) (by omega)]
  by_cases h : (m.length : Int) ≤ most
  · rw [if_pos h, if_pos h]
    exact takeF_app m l
  · rw [if_neg h, if_neg h]
    rfl
theorem numF_some {k : Nat} {most v : Int} {l l' : List UInt8} (h : numF k most (some l) = (v, some l')) : 0 ≤ v ∧ v ≤ most ∧ v.toNat < 256 ^ k ∧ l = be k v.toNat ++ l' := by
  rw [numF_def] at h
  by_cases hc : l.length < k ∨ most < (val (l.take k) : Int)
  · rw [if_pos hc] at h; simp at h
  · rw [if_neg hc] at h
    simp only [Prod.mk.injEq, Option.some.injEq] at h
    obtain ⟨rfl, rfl⟩ := h
    have hk : (l.take k).length = k := by rw [List.length_take]; omega
    have hv := val_lt (l.take k)
    rw [hk] at hv
    have hb := be_val (l.take k)
    rw [hk] at hb
    refine ⟨by omega, by omega, by simpa using hv, ?_⟩
    rw [Int.toNat_natCast, hb, List.take_append_drop]
theorem textF_some {most : Int} {m l l' : List UInt8} (h : textF most (some l) = (m, some l')) : (m.length : Int) ≤ most ∧ m.length ≤ 65535 ∧ l = textE m ++ l' := by
  unfold textF at h
  cases hq : numF 2 most (some l) with
  | mk v st =>
    rw [hq] at h
    cases st with
    | none => simp [takeF] at h
    | some l2 =>
      obtain ⟨h0, h1, h2, h3⟩ := numF_some hq
      simp only [takeF_def] at h
      by_cases hl : l2.length < v.toNat
      · simp only [hl, if_true] at h; simp at h
      · simp only [hl, if_false] at h
        simp only [Prod.mk.injEq, Option.some.injEq] at h
        obtain ⟨rfl, rfl⟩ := h
        have hk : (l2.take v.toNat).length = v.toNat := by rw [List.length_take]; omega
        refine ⟨by rw [hk]; omega, by rw [hk]; omega, ?_⟩
        rw [textE_short _ (by rw [hk]; omega), hk, List.append_assoc, List.take_append_drop, h3]
end Go.Proofs.YtpjbkeheemhlnaaDoor
