/- What a store's device has, over many Puts and failures of the power; no program. -/
import Derived.Test.YtiknfifiglooeaaDoorChunkP
namespace Go.Proofs.YtiknfifiglooeaaDoor
open Go.RowKit
set_option linter.unusedVariables false
set_option maxRecDepth 100000

theorem wrs_writes (q i : Int) : ∀ (cs : List ByteArray) (D : Dv) (k : Nat), (Dv.wrs q i D k cs).2.writes ≤ D.writes + cs.length
  | [], D, k => Nat.le_refl _
  | c :: cs, D, k => by
    have h1 := c_swrite_writes D (q + (k : Int)) (chunkR i (k : Int) c)
    by_cases h0 : (D.swrite (q + (k : Int)) (chunkR i (k : Int) c)).1 = 0
    · rw [wrs_go h0]
      have h2 := wrs_writes q i cs (D.swrite (q + (k : Int)) (chunkR i (k : Int) c)).2 (k + 1)
      simp only [List.length_cons]
      omega
    · rw [wrs_stop h0]
      simp only [List.length_cons]
      omega
theorem pair_writes (D : Dv) (x y : Int) (r : Rc) : (D.pair x y r).2.writes ≤ D.writes + 2 := by
  have h1 := c_one_writes D x r
  by_cases h0 : (D.one x r).1 = 0
  · rw [pair_go h0]
    have := c_one_writes (D.one x r).2 y r
    omega
  · rw [pair_stop h0]
    omega
theorem putP_writes (D : Dv) (base i0 area i t : Int) (s : ByteArray) : (putP D base i0 area i t s).2.writes ≤ D.writes + cutN s.size + 2 := by
  have h1 := wrs_writes (base + nextA i0 area * 66 + 2) i (cutS s) D 0
  rw [cutS_length] at h1
  unfold putP
  by_cases h0 : (Dv.wrs (base + nextA i0 area * 66 + 2) i D 0 (cutS s)).1 = 0
  · have h2 := c_flush_writes (Dv.wrs (base + nextA i0 area * 66 + 2) i D 0 (cutS s)).2
    by_cases h3 : (Dv.wrs (base + nextA i0 area * 66 + 2) i D 0 (cutS s)).2.flush.1 = 0
    · rw [put7_go h0 h3]
      have := pair_writes (Dv.wrs (base + nextA i0 area * 66 + 2) i D 0 (cutS s)).2.flush.2 (wcB base (nextA i0 area) 0 0) (wcB base (nextA i0 area) 0 1) (listR (ofL i t s))
      omega
    · rw [put7_flush h0 h3]
      omega
  · rw [put7_stop h0]
    omega
/-- No list. -/
def HasN (C : Ct) (base : Nat) : Prop := ∀ a n, a ≤ 1 → n ≤ 1 → (cpC C (base + a * 66 + n)).index = 0
/-- A snapshot in area ar; what else there is, is older. -/
structure HasS (C : Ct) (base ar : Nat) (i t : Int) (s : ByteArray) : Prop where
  arl : ar ≤ 1
  good : (ofL i t s).Good
  one : ∃ n, n ≤ 1 ∧ cpC C (base + ar * 66 + n) = ofL i t s
  all : ∀ a n, a ≤ 1 → n ≤ 1 → (cpC C (base + a * 66 + n)).index < i ∨ (a = ar ∧ cpC C (base + a * 66 + n) = ofL i t s)
  ck : Pieces C (base + ar * 66 + 2) i s
/-- What a store has: nothing (then i is 0), or a snapshot. -/
def Has (C : Ct) (base : Nat) (l : Ls) (ar : Nat) (i t : Int) (s : ByteArray) : Prop := (i = 0 ∧ l = ls0 ∧ ar = 0 ∧ HasN C base) ∨ (l = ofL i t s ∧ HasS C base ar i t s)
section
variable {C C2 : Ct} {base ar : Nat} {l : Ls} {i0 t0 i t : Int} {s0 s : ByteArray}
theorem HasS.pos (h : HasS C base ar i t s) : 1 ≤ i := h.good.in.1
theorem Has.index (h : Has C base l ar i0 t0 s0) : l.index = i0 ∧ 0 ≤ i0 ∧ ar ≤ 1 := by
  rcases h with ⟨rfl, rfl, rfl, _⟩ | ⟨rfl, h⟩
  · exact ⟨rfl, by omega, by omega⟩
  · exact ⟨rfl, by have := h.pos; omega, h.arl⟩
theorem has_open (h : Has C base l ar i0 t0 s0) : opnC C base = (l, (ar : Int)) := by
  rcases h with ⟨rfl, rfl, rfl, h⟩ | ⟨rfl, h⟩
  · exact opnC_zero h
  · exact opnC_max h.arl (by have := h.pos; show (0 : Int) < i0; omega) h.one h.all
theorem has_same (h : Has C base l ar i0 t0 s0) (he : ∀ j, base ≤ j → C2 j = C j) : Has C2 base l ar i0 t0 s0 := by
  have hc : ∀ a n, cpC C2 (base + a * 66 + n) = cpC C (base + a * 66 + n) := fun a n => by unfold cpC; rw [he _ (by omega)]
  rcases h with ⟨h1, h2, h3, h⟩ | ⟨h1, h⟩
  · exact .inl ⟨h1, h2, h3, fun a n ha hn => by rw [hc]; exact h a n ha hn⟩
  · obtain ⟨n, hn, ho⟩ := h.one
    exact .inr ⟨h1, ⟨h.arl, h.good, ⟨n, hn, by rw [hc]; exact ho⟩, fun a n ha hn => by rw [hc]; exact h.all a n ha hn, fun k hk => by rw [he _ (by omega)]; exact h.ck k hk⟩⟩
/-- The copies are older than what is put. -/
theorem has_older (h : Has C base l ar i0 t0 s0) (hi : i0 < i) : ∀ a n, a ≤ 1 → n ≤ 1 → (cpC C (base + a * 66 + n)).index < i := by
  intro a n ha hn
  rcases h with ⟨rfl, _, _, h⟩ | ⟨_, h⟩
  · rw [h a n ha hn]; exact hi
  · rcases h.all a n ha hn with h1 | ⟨_, h1⟩
    · omega
    · rw [h1]; exact hi
/-- Behind a Put and a failure: what was there, or what was being put. -/
theorem has_power (h : Has C base l ar i0 t0 s0) (hg : (ofL i t s).Good) (hi : i0 < i) (hx : PutX C C2 (base + nxtA l ar * 66) i t s) : Has C2 base l ar i0 t0 s0 ∨ HasS C2 base (nxtA l ar) i t s := by
  have hna := nxtA_le l ar
  have hold := has_older h hi
  have hidx := h.index
  have hn0 : (0 : Int) < i := by omega
  -- a copy of the area that is written, else one of the other
  have hcp : ∀ a n, a ≤ 1 → n ≤ 1 → a ≠ nxtA l ar → cpC C2 (base + a * 66 + n) = cpC C (base + a * 66 + n) := fun a n ha hn hne => by
    unfold cpC
    rw [hx.out _ (by omega)]
  have hck : ∀ k, k < 64 → ar ≠ nxtA l ar → C2 (base + ar * 66 + 2 + k) = C (base + ar * 66 + 2 + k) := fun k hk hne => hx.out _ (by omega)
  -- the old one stays, if no copy is the new list
  have old : (∀ n, n ≤ 1 → (cpC C2 (base + nxtA l ar * 66 + n)).index = 0 ∨ cpC C2 (base + nxtA l ar * 66 + n) = cpC C (base + nxtA l ar * 66 + n)) → Has C2 base l ar i0 t0 s0 := by
    intro hw
    have hall : ∀ a n, a ≤ 1 → n ≤ 1 → (cpC C2 (base + a * 66 + n)).index = 0 ∨ cpC C2 (base + a * 66 + n) = cpC C (base + a * 66 + n) := fun a n ha hn => by
      by_cases e : a = nxtA l ar
      · subst e; exact hw n hn
      · exact .inr (hcp a n ha hn e)
    rcases h with ⟨h1, h2, h3, h⟩ | ⟨h1, h⟩
    · refine .inl ⟨h1, h2, h3, fun a n ha hn => ?_⟩
      rcases hall a n ha hn with e | e
      · exact e
      · rw [e]; exact h a n ha hn
    · have hne : ar ≠ nxtA l ar := by
        have h2 := h.pos
        have h3 : l.index = i0 := by rw [h1]; rfl
        unfold nxtA
        rw [if_neg (by omega)]
        have := h.arl
        omega
      obtain ⟨n, hn, ho⟩ := h.one
      refine .inr ⟨h1, ⟨h.arl, h.good, ⟨n, hn, by rw [hcp ar n h.arl hn hne]; exact ho⟩, fun a n ha hn => ?_, fun k hk => ?_⟩⟩
      · rcases hall a n ha hn with e | e
        · exact .inl (by rw [e]; have := h.pos; omega)
        · rw [e]; exact h.all a n ha hn
      · have := cutN_le.2 (good_size h.good)
        rw [hck k (by omega) hne]
        exact h.ck k hk
  rcases hx.way with ⟨w0, w1⟩ | ⟨wp, wn⟩
  · refine .inl (old (fun n hn => .inr ?_))
    unfold cpC
    rcases (show n = 0 ∨ n = 1 by omega) with rfl | rfl
    · rw [Nat.add_zero, w0]
    · rw [w1]
  · by_cases hnew : ∃ n, n ≤ 1 ∧ cpC C2 (base + nxtA l ar * 66 + n) = ofL i t s
    · refine .inr ⟨hna, hg, hnew, fun a n ha hn => ?_, wp⟩
      by_cases e : a = nxtA l ar
      · subst e
        rcases wn n hn with h1 | h1 | h1
        · exact .inr ⟨rfl, cpC_list h1 hg⟩
        · exact .inl (by rw [cpC_rc0 h1]; exact hn0)
        · refine .inl ?_
          have : cpC C2 (base + nxtA l ar * 66 + n) = cpC C (base + nxtA l ar * 66 + n) := by unfold cpC; rw [h1]
          rw [this]
          exact hold _ n ha hn
      · rw [hcp a n ha hn e]; exact .inl (hold a n ha hn)
    · refine .inl (old (fun n hn => ?_))
      rcases wn n hn with h1 | h1 | h1
      · exact absurd ⟨n, hn, cpC_list h1 hg⟩ hnew
      · exact .inl (by rw [cpC_rc0 h1]; rfl)
      · exact .inr (by unfold cpC; rw [h1])
/-- Behind a Put that was answered. -/
theorem has_put (h : Has C base l ar i0 t0 s0) (hg : (ofL i t s).Good) (hi : i0 < i) : HasS (putC C (base + nxtA l ar * 66) i t s) base (nxtA l ar) i t s := by
  have hna := nxtA_le l ar
  have hold := has_older h hi
  have hsz := good_size hg
  refine ⟨hna, hg, ⟨0, by omega, cpC_list (x := 1) putC_l0 hg⟩, fun a n ha hn => ?_, fun k hk => putC_ck hk⟩
  by_cases e : a = nxtA l ar
  · subst e
    rcases (show n = 0 ∨ n = 1 by omega) with rfl | rfl
    · exact .inr ⟨rfl, cpC_list (x := 1) putC_l0 hg⟩
    · exact .inr ⟨rfl, cpC_list (x := 1) putC_l1 hg⟩
  · refine .inl ?_
    have : cpC (putC C (base + nxtA l ar * 66) i t s) (base + a * 66 + n) = cpC C (base + a * 66 + n) := by
      unfold cpC
      rw [putC_out hsz (by omega)]
    rw [this]
    exact hold a n ha hn
end
end Go.Proofs.YtiknfifiglooeaaDoor
