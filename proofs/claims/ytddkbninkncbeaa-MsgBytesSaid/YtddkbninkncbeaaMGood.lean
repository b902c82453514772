/- What was encoded is read, and only that: messages. No program; no conditions beyond those in each statement. -/
import Derived.Test.YtddkbninkncbeaaMRd
namespace Go.Proofs.Ytddkbninkncbeaa
open Go.RowKit
set_option linter.unusedVariables false
set_option linter.unusedSimpArgs false
set_option maxRecDepth 100000

theorem textsE_one (a : ByteArray) : textsE [a] = textE a.data.toList := by simp [textsE]
theorem flagsE_one (a : Bool) : flagsE [a] = flagE a := by simp [flagsE]
theorem numsE_one (a : Int) : numsE [a] = numE a := by simp [numsE]
theorem encE_form (o : Ent) (r : List UInt8) : encE o ++ r = numE o.ix ++ (numE o.tm ++ (textE o.da.data.toList ++ r)) := by
  unfold encE; rw [numsE_two, textsE_one]; simp only [List.append_assoc]
theorem encM_form (m : Mg) (r : List UInt8) : encM m ++ r = numE m.kd ++ (numE m.fr ++ (numE m.dt ++ (numE m.tm ++ (numE m.ix ++ (numE m.lg ++ (numE m.la ++ (numE m.co ++ (numE (m.es.length : Int) ++ (m.es.flatMap encE ++ (flagE m.ok ++ (numE m.st ++ (numE m.li ++ (numE m.lt ++ (numE m.lb ++ (numE (m.ss.length : Int) ++ (numsE m.ss ++ (numE m.pa ++ (textE m.da.data.toList ++ r)))))))))))))))))) := by
  unfold encM headE lnS
  rw [textsE_one, flagsE_one, numsE_one, numsE_one]
  simp only [numsE, List.flatMap_cons, List.flatMap_nil, List.flatMap_append, List.append_nil, List.append_assoc]
theorem rdE_good (o : Ent) (r : List UInt8) (h : rightE o = true) : rdE (some (encE o ++ r)) = (o, some r) := by
  obtain ⟨h1, h2, h3⟩ := rightE_parts h
  rw [encE_form]
  unfold rdE
  rw [numF_good _ _ _ (by omega) (by omega) (by decide)]
  simp only
  rw [numF_good _ _ _ (by omega) (by omega) (by decide)]
  simp only
  rw [textF_good _ _ _ (by rw [← Lib.size_eq]; omega) (by decide)]
theorem rdEs_good (L : List Ent) (r : List UInt8) (h : ∀ o ∈ L, rightE o = true) : ∀ k, k ≤ L.length → rdEs k (some (L.flatMap encE ++ r)) = (L.take k, some ((L.drop k).flatMap encE ++ r))
  | 0, _ => by simp [rdEs]
  | k + 1, hk => by
    have ih := rdEs_good L r h k (by omega)
    have hlt : k < L.length := by omega
    unfold rdEs
    rw [ih]
    simp only
    have hd : L.drop k = L.getD k Ent.zero :: L.drop (k + 1) := by
      rw [List.drop_eq_getElem_cons hlt, List.getD_eq_getElem?_getD, List.getElem?_eq_getElem hlt]; rfl
    rw [hd, List.flatMap_cons, List.append_assoc, rdE_good _ _ (h _ (getD_mem hlt)), take_snoc_getD L Ent.zero k hlt]
theorem rdSs_good (L : List Int) (r : List UInt8) (h : ∀ z ∈ L, 0 ≤ z ∧ z ≤ 4294967295) : ∀ k, k ≤ L.length → rdSs k (some (numsE L ++ r)) = (L.take k, some (numsE (L.drop k) ++ r))
  | 0, _ => by simp [rdSs]
  | k + 1, hk => by
    have ih := rdSs_good L r h k (by omega)
    have hlt : k < L.length := by omega
    unfold rdSs
    rw [ih]
    simp only
    have hd : L.drop k = L.getD k 0 :: L.drop (k + 1) := by
      rw [List.drop_eq_getElem_cons hlt, List.getD_eq_getElem?_getD, List.getElem?_eq_getElem hlt]; rfl
    have hz := h _ (getD_mem (d := (0 : Int)) hlt)
    rw [hd, show numsE (L.getD k 0 :: L.drop (k + 1)) = numE (L.getD k 0) ++ numsE (L.drop (k + 1)) by simp [numsE], List.append_assoc, numF_good _ _ _ hz.1 hz.2 (by decide), take_snoc_getD L (0 : Int) k hlt]
theorem rdEnts_good (L : List Ent) (r : List UInt8) (h : ∀ o ∈ L, rightE o = true) (hl : L.length ≤ 4) : rdEnts (some (numE (L.length : Int) ++ (L.flatMap encE ++ r))) = (L, some r) := by
  unfold rdEnts
  rw [numF_good _ _ _ (by omega) (by omega) (by decide)]
  simp only
  rw [Int.toNat_natCast, rdEs_good _ _ h _ (Nat.le_refl _), List.take_length, List.drop_length]
  simp
theorem rdL_good (i t n : Int) (S : List Int) (r : List UInt8) (h1 : 0 ≤ i ∧ i ≤ 281474976710655) (h2 : 0 ≤ t ∧ t ≤ 281474976710655) (h3 : 0 ≤ n ∧ n ≤ 281474976710655) (h : ∀ z ∈ S, 0 ≤ z ∧ z ≤ 4294967295) (hl : S.length ≤ 64) :
    rdL (some (numE i ++ (numE t ++ (numE n ++ (numE (S.length : Int) ++ (numsE S ++ r)))))) = (⟨i, t, n, S⟩, some r) := by
  unfold rdL
  rw [numF_good _ _ _ h1.1 h1.2 (by decide)]
  simp only
  rw [numF_good _ _ _ h2.1 h2.2 (by decide)]
  simp only
  rw [numF_good _ _ _ h3.1 h3.2 (by decide)]
  simp only
  rw [numF_good _ _ _ (by omega) (by omega) (by decide)]
  simp only
  rw [Int.toNat_natCast, rdSs_good _ _ h _ (Nat.le_refl _), List.take_length, List.drop_length]
  simp [numsE]
theorem rdM_good (m : Mg) (h : m.Rt) (hs : ∀ z ∈ m.ss, 0 ≤ z ∧ z ≤ 4294967295) (r : List UInt8) : rdM (some (encM m ++ r)) = (m, some r) := by
  have h0 := h.kd
  have h1 := h.st
  have h2 := h.da
  rw [encM_form]
  unfold rdM
  rw [numF_good _ _ _ (by omega) (by omega) (by decide)]
  simp only
  rw [numF_good _ _ _ h.fr.1 h.fr.2 (by decide)]
  simp only
  rw [numF_good _ _ _ h.dt.1 h.dt.2 (by decide)]
  simp only
  rw [numF_good _ _ _ h.tm.1 h.tm.2 (by decide)]
  simp only
  rw [numF_good _ _ _ h.ix.1 h.ix.2 (by decide)]
  simp only
  rw [numF_good _ _ _ h.lg.1 h.lg.2 (by decide)]
  simp only
  rw [numF_good _ _ _ h.la.1 h.la.2 (by decide)]
  simp only
  rw [numF_good _ _ _ h.co.1 h.co.2 (by decide)]
  simp only
  rw [rdEnts_good _ _ h.ess h.es]
  simp only
  rw [flagF_good]
  simp only
  rw [numF_good _ _ _ (by omega) (by omega) (by decide)]
  simp only
  rw [rdL_good _ _ _ _ _ h.li h.lt h.lb hs h.ss]
  simp only
  rw [numF_good _ _ _ h.pa.1 h.pa.2 (by decide)]
  simp only
  rw [textF_good _ _ _ (by rw [← Lib.size_eq]; omega) (by decide)]
theorem readM_good (m : Mg) (h : rightM m = true) (hs : ∀ z ∈ m.ss, 0 ≤ z ∧ z ≤ 4294967295) : readM (encM m) = (m, 0) := by
  unfold readM
  have := rdM_good m (rightM_parts h) hs []
  rw [List.append_nil] at this
  rw [this, if_pos ⟨rfl, h⟩]
theorem rdE_some {st : RS} {l' : List UInt8} (h : (rdE st).2 = some l') : ∃ l, st = some l ∧ l = encE (rdE st).1 ++ l' := by
  unfold rdE at h ⊢
  simp only at h ⊢
  obtain ⟨l2, e2, f2, _⟩ := textF_some (by decide) h
  obtain ⟨l1, e1, f1, _⟩ := numF_some (by decide) e2
  obtain ⟨l0, e0, f0, _⟩ := numF_some (by decide) e1
  refine ⟨l0, e0, ?_⟩
  rw [encE_form]
  simp only
  rw [← f2, ← f1, ← f0]
theorem rdEs_some {st : RS} : ∀ (k : Nat) {l' : List UInt8}, (rdEs k st).2 = some l' → ∃ l, st = some l ∧ l = (rdEs k st).1.flatMap encE ++ l'
  | 0, l', h => ⟨l', h, by simp [rdEs]⟩
  | k + 1, l', h => by
    have h' : (rdE (rdEs k st).2).2 = some l' := h
    obtain ⟨l1, e1, f1⟩ := rdE_some h'
    obtain ⟨l0, e0, f0⟩ := rdEs_some k e1
    refine ⟨l0, e0, ?_⟩
    show l0 = ((rdEs k st).1 ++ [(rdE (rdEs k st).2).1]).flatMap encE ++ l'
    rw [f0, f1, List.flatMap_append]; simp
theorem rdSs_some {st : RS} : ∀ (k : Nat) {l' : List UInt8}, (rdSs k st).2 = some l' → ∃ l, st = some l ∧ l = numsE (rdSs k st).1 ++ l'
  | 0, l', h => ⟨l', h, by simp [rdSs, numsE]⟩
  | k + 1, l', h => by
    have h' : (numF 6 4294967295 (rdSs k st).2).2 = some l' := h
    obtain ⟨l1, e1, f1, _⟩ := numF_some (by decide) h'
    obtain ⟨l0, e0, f0⟩ := rdSs_some k e1
    refine ⟨l0, e0, ?_⟩
    show l0 = numsE ((rdSs k st).1 ++ [(numF 6 4294967295 (rdSs k st).2).1]) ++ l'
    rw [f0, f1]; unfold numsE; rw [List.flatMap_append]; simp
theorem rdEnts_some {st : RS} {l' : List UInt8} (h : (rdEnts st).2 = some l') : ∃ l, st = some l ∧ l = numE ((rdEnts st).1.length : Int) ++ ((rdEnts st).1.flatMap encE ++ l') := by
  unfold rdEnts at h ⊢
  obtain ⟨l1, e1, f1⟩ := rdEs_some _ h
  obtain ⟨l0, e0, f0, p0, _⟩ := numF_some (by decide) e1
  refine ⟨l0, e0, ?_⟩
  rw [rdEs_len, Int.toNat_of_nonneg p0, ← f1, ← f0]
theorem rdL_some {st : RS} {l' : List UInt8} (h : (rdL st).2 = some l') : ∃ l, st = some l ∧ l = numE (rdL st).1.i ++ (numE (rdL st).1.t ++ (numE (rdL st).1.n ++ (numE ((rdL st).1.S.length : Int) ++ (numsE (rdL st).1.S ++ l')))) := by
  unfold rdL at h ⊢
  simp only at h ⊢
  obtain ⟨l4, e4, f4⟩ := rdSs_some _ h
  obtain ⟨l3, e3, f3, p3, _⟩ := numF_some (by decide) e4
  obtain ⟨l2, e2, f2, _⟩ := numF_some (by decide) e3
  obtain ⟨l1, e1, f1, _⟩ := numF_some (by decide) e2
  obtain ⟨l0, e0, f0, _⟩ := numF_some (by decide) e1
  refine ⟨l0, e0, ?_⟩
  rw [rdSs_len, Int.toNat_of_nonneg p3, ← f4, ← f3, ← f2, ← f1, ← f0]
theorem rdM_some {st : RS} {l' : List UInt8} (h : (rdM st).2 = some l') : ∃ l, st = some l ∧ l = encM (rdM st).1 ++ l' := by
  unfold rdM at h ⊢
  simp only at h ⊢
  obtain ⟨l13, e13, f13, _⟩ := textF_some (by decide) h
  obtain ⟨l12, e12, f12, _⟩ := numF_some (by decide) e13
  obtain ⟨l11, e11, f11⟩ := rdL_some e12
  obtain ⟨l10, e10, f10, _⟩ := numF_some (by decide) e11
  obtain ⟨l9, e9, f9⟩ := flagF_some e10
  obtain ⟨l8, e8, f8⟩ := rdEnts_some e9
  obtain ⟨l7, e7, f7, _⟩ := numF_some (by decide) e8
  obtain ⟨l6, e6, f6, _⟩ := numF_some (by decide) e7
  obtain ⟨l5, e5, f5, _⟩ := numF_some (by decide) e6
  obtain ⟨l4, e4, f4, _⟩ := numF_some (by decide) e5
  obtain ⟨l3, e3, f3, _⟩ := numF_some (by decide) e4
  obtain ⟨l2, e2, f2, _⟩ := numF_some (by decide) e3
  obtain ⟨l1, e1, f1, _⟩ := numF_some (by decide) e2
  obtain ⟨l0, e0, f0, _⟩ := numF_some (by decide) e1
  refine ⟨l0, e0, ?_⟩
  rw [encM_form]
  simp only
  rw [← f13, ← f12, ← f11, ← f10, ← f9, ← f8, ← f7, ← f6, ← f5, ← f4, ← f3, ← f2, ← f1, ← f0]
theorem readM_some {l : List UInt8} (h : (readM l).2 = 0) : encM (readM l).1 = l ∧ rightM (readM l).1 = true := by
  unfold readM at h ⊢
  split at h
  · rename_i hc
    rw [if_pos hc]
    obtain ⟨l0, e0, f0⟩ := rdM_some (doneF_zero hc.1)
    obtain rfl : l = l0 := by injection e0
    exact ⟨by rw [List.append_nil] at f0; exact f0.symm, hc.2⟩
  · cases h
theorem readM_two {l : List UInt8} (h : ¬ (readM l).2 = 0) : readM l = (Mg.zero, 2) := by
  unfold readM at h ⊢
  split at h
  · exact absurd rfl h
  · rename_i hc; rw [if_neg hc]
theorem readM_oks (l : List UInt8) : (readM l).1.Ok ∧ (readM l).1.es.length ≤ 4 ∧ (∀ x ∈ (readM l).1.es, x.Ok) ∧ (readM l).1.ss.length ≤ 64 ∧ (∀ x ∈ (readM l).1.ss, 0 ≤ x ∧ x ≤ 4294967295) := by
  unfold readM
  split
  · exact rdM_ok _
  · refine ⟨?_, Nat.zero_le _, (fun x hx => by cases hx), Nat.zero_le _, (fun x hx => by cases hx)⟩
    constructor <;> first | (unfold InR Mg.zero; decide) | (unfold Mg.zero maxLen; decide)
theorem encM_length (m : Mg) : (encM m).length = 54 + (m.es.flatMap encE).length + 1 + 6 + 6 * (m.ss.length + 4) + 6 + (textE m.da.data.toList).length := by
  unfold encM headE
  rw [textsE_one]
  simp only [List.length_append, numsE_length, flagsE_length, lnS_len, List.length_cons, List.length_nil]
end Go.Proofs.Ytddkbninkncbeaa
