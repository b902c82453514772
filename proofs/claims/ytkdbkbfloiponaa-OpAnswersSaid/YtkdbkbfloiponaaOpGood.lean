/- What was encoded is read, and only that: commands. No program; no conditions beyond those in each statement. -/
import Derived.Test.YtkdbkbfloiponaaOpSm
namespace Go.Proofs.Ytkdbkbfloiponaa
open Go.RowKit
set_option linter.unusedVariables false
set_option linter.unusedSimpArgs false
set_option maxRecDepth 100000

theorem numF_some {most : Int} {st : RS} {l' : List UInt8} (hm : most ≤ 281474976710655) (h : (numF 6 most st).2 = some l') : ∃ l, st = some l ∧ l = numE (numF 6 most st).1 ++ l' ∧ 0 ≤ (numF 6 most st).1 ∧ (numF 6 most st).1 ≤ most := by
  cases st with
  | none => cases h
  | some l =>
    refine ⟨l, rfl, ?_⟩
    by_cases hc : l.length < 6 ∨ most < (val (l.take 6) : Int)
    · simp only [numF, hc, if_true] at h; cases h
    · simp only [numF, hc, if_false] at h ⊢
      injection h with h
      have h6 : (l.take 6).length = 6 := by rw [List.length_take]; omega
      have hv := val_lt (l.take 6)
      rw [h6] at hv
      have he : numE (val (l.take 6) : Int) = l.take 6 := by
        unfold numE
        have : (min (max (val (l.take 6) : Int) 0) 281474976710655).toNat = val (l.take 6) := by
          have : (256 : Nat) ^ 6 = 281474976710656 := by decide
          omega
        rw [this]
        have := be_val (l.take 6)
        rw [h6] at this; exact this
      rw [he, ← h, List.take_append_drop]
      exact ⟨rfl, by omega, by omega⟩
theorem textF_some {most : Int} {st : RS} {l' : List UInt8} (hm : most ≤ 65535) (h : (textF most st).2 = some l') : ∃ l, st = some l ∧ l = textE (textF most st).1 ++ l' ∧ ((textF most st).1.length : Int) ≤ most := by
  cases st with
  | none => cases h
  | some l =>
    refine ⟨l, rfl, ?_⟩
    unfold textF at h ⊢
    by_cases hc : l.length < 2 ∨ most < (val (l.take 2) : Int)
    · simp only [numF, hc, if_true] at h; cases h
    · simp only [numF, hc, if_false] at h ⊢
      have h2 : (l.take 2).length = 2 := by rw [List.length_take]; omega
      obtain ⟨n, hn⟩ : ∃ n, n = val (l.take 2) := ⟨_, rfl⟩
      rw [← hn] at h hc ⊢
      rw [Int.toNat_natCast] at h ⊢
      by_cases hl : (l.drop 2).length < n
      · simp only [takeF, hl, if_true] at h; cases h
      · simp only [takeF, hl, if_false] at h ⊢
        injection h with h
        have hln : ((l.drop 2).take n).length = n := by rw [List.length_take]; omega
        refine ⟨?_, by rw [hln]; omega⟩
        unfold textE
        rw [List.take_of_length_le (by rw [hln]; omega), hln, ← h]
        have hb := be_val (l.take 2)
        rw [h2, ← hn] at hb
        rw [hb, List.append_assoc, List.take_append_drop, List.take_append_drop]

theorem numsE_two (a b : Int) : numsE [a, b] = numE a ++ numE b := by simp [numsE]
theorem textsE_two (a b : ByteArray) : textsE [a, b] = textE a.data.toList ++ textE b.data.toList := by simp [textsE]
theorem textsE_one (a : ByteArray) : textsE [a] = textE a.data.toList := by simp [textsE]
theorem flagsE_two (a b : Bool) : flagsE [a, b] = flagE a ++ flagE b := by simp [flagsE]
theorem numsE_five (a b c d e : Int) : numsE [a, b, c, d, e] = numE a ++ (numE b ++ (numE c ++ (numE d ++ numE e))) := by simp [numsE]
theorem encO_form (o : Opr) (r : List UInt8) : encO o ++ r = numE o.does ++ (numE (o.ver + 1) ++ (textE o.path.data.toList ++ (textE o.data.data.toList ++ (flagE o.ser ++ (flagE o.own ++ r))))) := by
  unfold encO; rw [numsE_two, textsE_two, flagsE_two]; simp
theorem arr_mk (s : ByteArray) : (⟨s.data.toList.toArray⟩ : ByteArray) = s := by simp
theorem rdO_good (o : Opr) (r : List UInt8) (h : rightO o = true) : rdO (some (encO o ++ r)) = (o, some r) := by
  obtain ⟨h1, h2, h3, h4, h5⟩ := rightO_parts h
  rw [encO_form]
  unfold rdO
  rw [numF_good _ _ _ (by omega) (by omega) (by decide)]
  simp only
  rw [numF_good _ _ _ (by omega) (by omega) (by decide)]
  simp only
  rw [textF_good _ _ _ (by rw [← Lib.size_eq]; omega) (by decide)]
  simp only
  rw [textF_good _ _ _ (by rw [← Lib.size_eq]; omega) (by decide)]
  simp only
  rw [flagF_good]
  simp only
  rw [flagF_good]
  simp only [arr_mk]
  rw [show o.ver + 1 + -1 = o.ver by omega]
theorem rdOs_good (L : List Opr) (r : List UInt8) (h : ∀ o ∈ L, rightO o = true) : ∀ k, k ≤ L.length → rdOs k (some (L.flatMap encO ++ r)) = (L.take k, some ((L.drop k).flatMap encO ++ r))
  | 0, _ => by simp [rdOs]
  | k + 1, hk => by
    have ih := rdOs_good L r h k (by omega)
    have hlt : k < L.length := by omega
    unfold rdOs
    rw [ih]
    simp only
    have hd : L.drop k = L.getD k Opr.zero :: L.drop (k + 1) := by
      rw [List.drop_eq_getElem_cons hlt, List.getD_eq_getElem?_getD, List.getElem?_eq_getElem hlt]; rfl
    rw [hd, List.flatMap_cons, List.append_assoc, rdO_good _ _ (h _ (getD_mem hlt)), take_snoc_getD L Opr.zero k hlt]
theorem rdC_good (c : Cm) (h : rightC c = true) : rdC (some (encC c)) = (c, some []) := by
  obtain ⟨q1, q2, q3, q4, q5, q6, q7⟩ := rightC_parts h
  have he : encC c = numE c.kind ++ (numE c.ses ++ (numE c.req ++ (numE c.noted ++ (numE (c.ops.length : Int) ++ (c.ops.flatMap encO ++ (textE c.path.data.toList ++ (flagE c.kids ++ (flagE c.once ++ [])))))))) := by
    unfold encC headE; rw [numsE_five, textsE_one, flagsE_two]; simp
  have hk : rdK (some (encC c)) = ⟨c.kind, c.ses, c.req, c.noted, c.ops.length, some (c.ops.flatMap encO ++ (textE c.path.data.toList ++ (flagE c.kids ++ (flagE c.once ++ [])))), c.path.data.toList, c.kids, c.once, some []⟩ := by
    rw [he]
    unfold rdK
    rw [numF_good _ _ _ (by omega) (by omega) (by decide)]
    simp only
    rw [numF_good _ _ _ (by omega) (by omega) (by decide)]
    simp only
    rw [numF_good _ _ _ (by omega) (by omega) (by decide)]
    simp only
    rw [numF_good _ _ _ (by omega) (by omega) (by decide)]
    simp only
    rw [numF_good _ _ _ (by omega) (by omega) (by decide)]
    simp only
    rw [Int.toNat_natCast, rdOs_good _ _ q4 _ (Nat.le_refl _), List.drop_length]
    simp only [List.flatMap_nil, List.nil_append]
    rw [textF_good _ _ _ (by rw [← Lib.size_eq]; omega) (by decide)]
    simp only
    rw [flagF_good]
    simp only
    rw [flagF_good]
  unfold rdC
  rw [hk]
  simp only [arr_mk]
  rw [rdOs_good _ _ q4 _ (Nat.le_refl _), List.take_length]
theorem readC_good (c : Cm) (h : rightC c = true) (hl : (encC c).length ≤ 488) : readC (encC c) = (c, 0) := by
  unfold readC
  rw [rdC_good c h, if_pos ⟨rfl, h, hl⟩]
theorem rdO_some {st : RS} {l' : List UInt8} (h : (rdO st).2 = some l') : ∃ l, st = some l ∧ l = encO (rdO st).1 ++ l' := by
  unfold rdO at h ⊢
  simp only at h ⊢
  obtain ⟨l5, e5, f5⟩ := flagF_some h
  obtain ⟨l4, e4, f4⟩ := flagF_some e5
  obtain ⟨l3, e3, f3, _⟩ := textF_some (by decide) e4
  obtain ⟨l2, e2, f2, _⟩ := textF_some (by decide) e3
  obtain ⟨l1, e1, f1, _⟩ := numF_some (by decide) e2
  obtain ⟨l0, e0, f0, _⟩ := numF_some (by decide) e1
  refine ⟨l0, e0, ?_⟩
  rw [encO_form]
  simp only
  rw [show ∀ z : Int, z + -1 + 1 = z by intro z; omega, ← f5, ← f4, ← f3, ← f2, ← f1, ← f0]
theorem rdOs_some {st : RS} : ∀ (k : Nat) {l' : List UInt8}, (rdOs k st).2 = some l' → ∃ l, st = some l ∧ l = (rdOs k st).1.flatMap encO ++ l'
  | 0, l', h => ⟨l', h, by simp [rdOs]⟩
  | k + 1, l', h => by
    have h' : (rdO (rdOs k st).2).2 = some l' := h
    obtain ⟨l1, e1, f1⟩ := rdO_some h'
    obtain ⟨l0, e0, f0⟩ := rdOs_some k e1
    refine ⟨l0, e0, ?_⟩
    show l0 = ((rdOs k st).1 ++ [(rdO (rdOs k st).2).1]).flatMap encO ++ l'
    rw [f0, f1, List.flatMap_append]; simp
theorem rdC_some {st : RS} {l' : List UInt8} (h : (rdC st).2 = some l') : ∃ l, st = some l ∧ l = encC (rdC st).1 ++ l' := by
  unfold rdC rdK at h ⊢
  simp only at h ⊢
  obtain ⟨l8, e8, f8⟩ := flagF_some h
  obtain ⟨l7, e7, f7⟩ := flagF_some e8
  obtain ⟨l6, e6, f6, _⟩ := textF_some (by decide) e7
  obtain ⟨l5, e5, f5⟩ := rdOs_some _ e6
  obtain ⟨l4, e4, f4, p4, _⟩ := numF_some (by decide) e5
  obtain ⟨l3, e3, f3, _⟩ := numF_some (by decide) e4
  obtain ⟨l2, e2, f2, _⟩ := numF_some (by decide) e3
  obtain ⟨l1, e1, f1, _⟩ := numF_some (by decide) e2
  obtain ⟨l0, e0, f0, _⟩ := numF_some (by decide) e1
  refine ⟨l0, e0, ?_⟩
  unfold encC headE
  simp only
  rw [numsE_five, textsE_one, flagsE_two, rdOs_len]
  rw [Int.toNat_of_nonneg p4]
  simp only [List.append_assoc]
  rw [← f8, ← f7, ← f6, ← f5, ← f4, ← f3, ← f2, ← f1, ← f0]
theorem doneF_zero {st : RS} (h : doneF st = 0) : st = some [] := by
  cases st with
  | none => cases h
  | some l => cases l with
    | nil => rfl
    | cons a l => cases h
theorem readC_some {l : List UInt8} (h : (readC l).2 = 0) : encC (readC l).1 = l ∧ rightC (readC l).1 = true ∧ l.length ≤ 488 := by
  unfold readC at h ⊢
  split at h
  · rename_i hc
    rw [if_pos hc]
    obtain ⟨l0, e0, f0⟩ := rdC_some (doneF_zero hc.1)
    obtain rfl : l = l0 := by injection e0
    exact ⟨by rw [List.append_nil] at f0; exact f0.symm, hc.2.1, hc.2.2⟩
  · cases h
theorem readC_two {l : List UInt8} (h : ¬ (readC l).2 = 0) : readC l = (Cm.zero, 2) := by
  unfold readC at h ⊢
  split at h
  · exact absurd rfl h
  · rename_i hc; rw [if_neg hc]
end Go.Proofs.Ytkdbkbfloiponaa
