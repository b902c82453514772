/- A transit's Swap: two pointers change places. No conditions beyond those in each statement. -/
import Derived.Test.YtfijidaohlnphaaNFl
namespace Go.Proofs.Ytfijidaohlnphaa
open Go.RowKit
set_option linter.unusedVariables false
set_option linter.unusedSimpArgs false
set_option maxRecDepth 100000

theorem und_tr : Try.prog.underlying 26 = some (.slice 55) := by kernel_rfl
theorem run_tix (W : World) (g n c i : Nat) (h : i < n) (hn : n ≤ 2000) : (Instr.indexAt 26 (.slice (some ⟨g, 0, none⟩) n c) (.int .i64 (i : Int))).run Try.prog W = .ok (.pointer (some ⟨g, i, none⟩)) W := by
  have h0 : (0 : Int) ≤ (i : Int) := by omega
  have h1 : (i : Int) < (n : Int) := by omega
  go_simp
theorem run_lp (W : World) (g i p : Nat) (h : W.cell? ⟨g, i, none⟩ = some (.pointer (some ⟨p, 0, none⟩))) : (Instr.loadAt 55 (.pointer (some ⟨g, i, none⟩))).run Try.prog W = .ok (.pointer (some ⟨p, 0, none⟩)) W := by go_simp
theorem run_sp (W : World) (g i : Nat) (p : Option Addr) (x : Value) (h : W.cell? ⟨g, i, none⟩ = some x) (hf : W.frozen? ⟨g, i, none⟩ = false) : (Instr.storeAt 55 (.pointer (some ⟨g, i, none⟩)) (.pointer p)).run Try.prog W = .ok () (W.setCell ⟨g, i, none⟩ (.pointer p)) := by go_simp
theorem cell_set_at {w : World} {g i j : Nat} {cs : Array Value} {t : TypeId} {m : Nat × Nat} (h : w.heap[g]? = some (.cells cs t m)) (u : Value) : (w.setCell ⟨g, i, none⟩ u).cell? ⟨g, j, none⟩ = if j = i ∧ i < cs.size then some u else w.cell? ⟨g, j, none⟩ := by
  have h1 := block_setCell (i := i) (u := u) h
  simp only [World.cell?, h1, h, Array.getElem?_setIfInBounds]
  by_cases e : i = j
  · subst e
    by_cases hs : i < cs.size
    · simp [hs]
    · simp [hs]
  · have e' : ¬ (j = i ∧ i < cs.size) := fun h => e h.1.symm
    rw [if_neg e, if_neg e']
def swapL (L : List Fl) (i j : Nat) : List Fl := (L.set i (L.getD j Fl.zero)).set j (L.getD i Fl.zero)
theorem swapL_len (L : List Fl) (i j : Nat) : (swapL L i j).length = L.length := by simp [swapL]
theorem swapL_perm {L : List Fl} {i j : Nat} (hi : i < L.length) (hj : j < L.length) : (swapL L i j).Perm L := by
  have e1 : L.getD i Fl.zero = L[i] := by simp [hi]
  have e2 : L.getD j Fl.zero = L[j] := by simp [hj]
  unfold swapL
  rw [e1, e2]
  exact List.set_set_perm hi hj
theorem swapL_at {L : List Fl} {i j k : Nat} (hi : i < L.length) (hj : j < L.length) : (swapL L i j).getD k Fl.zero = if k = j then L.getD i Fl.zero else if k = i then L.getD j Fl.zero else L.getD k Fl.zero := by
  unfold swapL
  simp only [List.getD_eq_getElem?_getD, List.getElem?_set, List.length_set]
  by_cases h1 : j = k
  · subst h1; simp [hj]
  · rw [if_neg h1, if_neg (Ne.symm h1)]
    by_cases h2 : i = k
    · subst h2; simp [hi]
    · rw [if_neg h2, if_neg (Ne.symm h2)]
/-- What has run of Swap's operations. -/
def FSw (g n c i j p1 p2 : Nat) : Nat → Value → Prop
  | 0, x | 2, x | 4, x | 8, x => x = .slice (some ⟨g, 0, none⟩) n c
  | 1, x | 9, x => x = .int .i64 i
  | 3, x | 5, x => x = .int .i64 j
  | 6, x | 14, x => x = .pointer (some ⟨g, j, none⟩)
  | 10, x | 12, x => x = .pointer (some ⟨g, i, none⟩)
  | 7, x => x = .pointer (some ⟨p2, 0, none⟩)
  | 11, x => x = .pointer (some ⟨p1, 0, none⟩)
  | _, _ => True
structure JSw (w0 : World) (g i p2 : Nat) (b : Nat → Bool) (x : Nat → Value) (w : World) : Prop where
  st : (b 13 = false ∧ w = w0) ∨ (b 13 = true ∧ b 7 = true ∧ b 11 = true ∧ w = w0.setCell ⟨g, i, none⟩ (.pointer (some ⟨p2, 0, none⟩)))
section
variable {w0 w : World} {g i p2 : Nat} {b : Nat → Bool} {x : Nat → Value}
theorem JSw.pure (h : JSw w0 g i p2 b x w) {k : Nat} {v : Value} (h7 : k ≠ 13) (h8 : True) (h9 : True) : JSw w0 g i p2 (setB b k) (setX x k v) w := by
  refine ⟨?_⟩
  rcases h.st with ⟨h1, h2⟩ | ⟨h1, h2, h3, h4⟩
  · exact .inl ⟨by rw [setB_ne (Ne.symm h7)]; exact h1, h2⟩
  · exact .inr ⟨setB_up h1, setB_up h2, setB_up h3, h4⟩
theorem JSw.first (h : JSw w0 g i p2 b x w) (hb : b 7 = true → b 11 = true → b 13 = true → False) : w = w0 := by
  rcases h.st with ⟨h1, h2⟩ | ⟨h1, h2, h3, h4⟩
  · exact h2
  · exact (hb h2 h3 h1).elim
theorem JSw.at0 (h : JSw w0 g i p2 b x w) (hb : b 7 = true → False) {a : Addr} : w.cell? a = w0.cell? a := by rw [h.first fun h _ _ => hb h]
theorem JSw.at1 (h : JSw w0 g i p2 b x w) (hb : b 11 = true → False) {a : Addr} : w.cell? a = w0.cell? a := by rw [h.first fun _ h _ => hb h]
theorem JSw.cell (h : JSw w0 g i p2 b x w) (hb : b 13 = false) {a : Addr} {v : Value} (hc : w0.cell? a = some v) : w.cell? a = some v := by rw [h.first fun _ _ h => by rw [hb] at h; cases h]; exact hc
theorem JSw.fz (h : JSw w0 g i p2 b x w) (hb : b 13 = false) {a : Addr} (hc : w0.frozen? a = false) : w.frozen? a = false := by rw [h.first fun _ _ h => by rw [hb] at h; cases h]; exact hc
theorem JSw.store (h : JSw w0 g i p2 b x w) (hb : b 13 = false) (h7 : b 7 = true) (h11 : b 11 = true) {v : Value} : JSw w0 g i p2 (setB b 13) (setX x 13 v) (w.setCell ⟨g, i, none⟩ (.pointer (some ⟨p2, 0, none⟩))) :=
  ⟨.inr ⟨setB_same _ _, setB_up h7, setB_up h11, by rw [h.first fun _ _ h => by rw [hb] at h; cases h]⟩⟩
theorem JSw.last (h : JSw w0 g i p2 b x w) (h13 : b 13 = true) : w = w0.setCell ⟨g, i, none⟩ (.pointer (some ⟨p2, 0, none⟩)) := by
  rcases h.st with ⟨h1, h2⟩ | ⟨h1, h2, h3, h4⟩
  · rw [h13] at h1; cases h1
  · exact h4
end
/-- The row behind the two stores. -/
theorem RowB.swap {w : World} {base g cap : Nat} {cur : Array Value} {L : List Fl} (h : RowB w base g cap cur L) {i j : Nat} (hi : i < L.length) (hj : j < L.length) :
    RowB ((w.setCell ⟨g, i, none⟩ (L.getD j Fl.zero).ptr).setCell ⟨g, j, none⟩ (L.getD i Fl.zero).ptr) base g cap ((cur.setIfInBounds i (L.getD j Fl.zero).ptr).setIfInBounds j (L.getD i Fl.zero).ptr) (swapL L i j) := by
  have hs := h.fit
  have hl := h.len
  refine ⟨h.low, block_setCell (block_setCell h.blk), by rw [swapL_len]; exact h.len, by simpa using h.fit, h.big, fun k hk => ?_⟩
  rw [swapL_len] at hk
  rw [swapL_at hi hj, Array.getElem?_setIfInBounds, Array.getElem?_setIfInBounds]
  by_cases e1 : k = j
  · subst e1
    rw [if_pos rfl, if_pos rfl, if_pos (by simp; omega)]
  · rw [if_neg (Ne.symm e1), if_neg e1]
    by_cases e2 : k = i
    · subst e2
      rw [if_pos rfl, if_pos rfl, if_pos (by omega)]
    · rw [if_neg (Ne.symm e2), if_neg e2]
      exact h.at_ k hk
set_option maxHeartbeats 4000000 in
theorem swap_any {w : World} {base : Nat} {v : Value} {L : List Fl} (h : NRow w base v L) (i j : Nat) (hi : i < L.length) (hj : j < L.length) :
    Calls Try.prog 39 #[v, .int .i64 i, .int .i64 j] w fun e w' => e = .returned (.tuple #[]) ∧ NRow w' base v (swapL L i j) ∧ w.grownBy w' v.ownBlock := by
  have hl := h.1
  obtain ⟨a, c, rfl, ha⟩ := h.form
  obtain ⟨g, cur, rfl, hr⟩ := ha (by omega)
  have HR := Lib.hid hr
  have HW := Lib.hid h
  have CI := Lib.hid (hr.cell hi)
  have CJ := Lib.hid (hr.cell hj)
  have FZ := Lib.hid (hr.fz i)
  have HI := Lib.hid hi
  have HJ := Lib.hid hj
  have HN := Lib.hid hl
  obtain ⟨p1, hp1⟩ : ∃ p, p = (L.getD i Fl.zero).p := ⟨_, rfl⟩
  obtain ⟨p2, hp2⟩ : ∃ p, p = (L.getD j Fl.zero).p := ⟨_, rfl⟩
  unfold Fl.ptr at CI CJ
  rw [← hp1] at CI
  rw [← hp2] at CJ
  have HP1 := Lib.hid hp1
  have HP2 := Lib.hid hp2
  clear hp1 hp2 hi hj hl h ha hr
  go_enter Try.func39, Try.ntmps39
  go_wp2_with fail
  refine wp_region_inv_last 15 (IFJ (FSw g L.length c i j p1 p2) (JSw w.drew g i p2)) (by kernel_rfl) (by kernel_rfl) (by kernel_rfl) (by kernel_rfl) (by kernel_rfl) ?_ ?_ ?_
  · intro x
    exact ⟨fun j hj => (by cases hj), ⟨.inl ⟨rfl, rfl⟩⟩⟩
  · intro k o hk ho b x w1 hI hbi hW
    match k, ho with
      | 0, ho =>
        obtain rfl := Option.some.inj ho
        exact gstep_move rfl (wanted0 rfl) _ rfl _ (eval_of 0 _ (by kernel_rfl) rfl) ⟨_, rfl, IFJ.step hI rfl (hI.2.pure (by decide) (by decide) (by decide))⟩
      | 1, ho =>
        obtain rfl := Option.some.inj ho
        exact gstep_move rfl (wanted0 rfl) _ rfl _ (eval_of 1 _ (by kernel_rfl) rfl) ⟨_, rfl, IFJ.step hI rfl (hI.2.pure (by decide) (by decide) (by decide))⟩
      | 2, ho =>
        obtain rfl := Option.some.inj ho
        exact gstep_move rfl (wanted0 rfl) _ rfl _ (eval_of 0 _ (by kernel_rfl) rfl) ⟨_, rfl, IFJ.step hI rfl (hI.2.pure (by decide) (by decide) (by decide))⟩
      | 3, ho =>
        obtain rfl := Option.some.inj ho
        exact gstep_move rfl (wanted0 rfl) _ rfl _ (eval_of 2 _ (by kernel_rfl) rfl) ⟨_, rfl, IFJ.step hI rfl (hI.2.pure (by decide) (by decide) (by decide))⟩
      | 4, ho =>
        obtain rfl := Option.some.inj ho
        exact gstep_move rfl (wanted0 rfl) _ rfl _ (eval_of 0 _ (by kernel_rfl) rfl) ⟨_, rfl, IFJ.step hI rfl (hI.2.pure (by decide) (by decide) (by decide))⟩
      | 5, ho =>
        obtain rfl := Option.some.inj ho
        exact gstep_move rfl (wanted0 rfl) _ rfl _ (eval_of 2 _ (by kernel_rfl) rfl) ⟨_, rfl, IFJ.step hI rfl (hI.2.pure (by decide) (by decide) (by decide))⟩
      | 6, ho =>
        obtain rfl := Option.some.inj ho
        exact gstep_index rfl (wanted0 rfl) _ _ _ rfl _ _ (eval_at 10 4 _ (by kernel_rfl) (show 10 < 20 by decide) (hI.1 4 (hW 4 (by kernel_rfl)))) (eval_at 11 5 _ (by kernel_rfl) (show 11 < 20 by decide) (hI.1 5 (hW 5 (by kernel_rfl)))) _ (run_tix _ _ _ _ _ HJ.out HN.out) ⟨_, rfl, IFJ.step hI rfl (hI.2.pure (by decide) (by decide) (by decide))⟩
      | 7, ho =>
        obtain rfl := Option.some.inj ho
        exact gstep_load rfl (wanted0 rfl) _ _ rfl _ (eval_at 12 6 _ (by kernel_rfl) (show 12 < 20 by decide) (hI.1 6 (hW 6 (by kernel_rfl)))) _ (run_lp _ _ _ _ ((hI.2.at0 (fun h => by rw [hbi] at h; cases h)).trans CJ.out)) ⟨_, rfl, IFJ.step hI rfl (hI.2.pure (by decide) (by decide) (by decide))⟩
      | 8, ho =>
        obtain rfl := Option.some.inj ho
        exact gstep_move rfl (wanted0 rfl) _ rfl _ (eval_of 0 _ (by kernel_rfl) rfl) ⟨_, rfl, IFJ.step hI rfl (hI.2.pure (by decide) (by decide) (by decide))⟩
      | 9, ho =>
        obtain rfl := Option.some.inj ho
        exact gstep_move rfl (wanted0 rfl) _ rfl _ (eval_of 1 _ (by kernel_rfl) rfl) ⟨_, rfl, IFJ.step hI rfl (hI.2.pure (by decide) (by decide) (by decide))⟩
      | 10, ho =>
        obtain rfl := Option.some.inj ho
        exact gstep_index rfl (wanted0 rfl) _ _ _ rfl _ _ (eval_at 14 8 _ (by kernel_rfl) (show 14 < 20 by decide) (hI.1 8 (hW 8 (by kernel_rfl)))) (eval_at 15 9 _ (by kernel_rfl) (show 15 < 20 by decide) (hI.1 9 (hW 9 (by kernel_rfl)))) _ (run_tix _ _ _ _ _ HI.out HN.out) ⟨_, rfl, IFJ.step hI rfl (hI.2.pure (by decide) (by decide) (by decide))⟩
      | 11, ho =>
        obtain rfl := Option.some.inj ho
        exact gstep_load rfl (wanted0 rfl) _ _ rfl _ (eval_at 16 10 _ (by kernel_rfl) (show 16 < 20 by decide) (hI.1 10 (hW 10 (by kernel_rfl)))) _ (run_lp _ _ _ _ ((hI.2.at1 (fun h => by rw [hbi] at h; cases h)).trans CI.out)) ⟨_, rfl, IFJ.step hI rfl (hI.2.pure (by decide) (by decide) (by decide))⟩
      | 12, ho =>
        obtain rfl := Option.some.inj ho
        exact gstep_index rfl (wanted0 rfl) _ _ _ rfl _ _ (eval_at 6 0 _ (by kernel_rfl) (show 6 < 20 by decide) (hI.1 0 (hW 0 (by kernel_rfl)))) (eval_at 7 1 _ (by kernel_rfl) (show 7 < 20 by decide) (hI.1 1 (hW 1 (by kernel_rfl)))) _ (run_tix _ _ _ _ _ HI.out HN.out) ⟨_, rfl, IFJ.step hI rfl (hI.2.pure (by decide) (by decide) (by decide))⟩
      | 13, ho =>
        obtain rfl := Option.some.inj ho
        refine gstep_store rfl (wanted0 rfl) _ _ _ rfl _ _ (eval_at 18 12 _ (by kernel_rfl) (show 18 < 20 by decide) (hI.1 12 (hW 12 (by kernel_rfl)))) (eval_at 13 7 _ (by kernel_rfl) (show 13 < 20 by decide) (hI.1 7 (hW 7 (by kernel_rfl)))) _ (run_sp w1 _ _ _ _ (hI.2.cell hbi CI.out) (hI.2.fz hbi FZ.out)) ?_
        exact ⟨_, rfl, IFJ.step hI trivial (hI.2.store hbi (hW 7 (by kernel_rfl)) (hW 11 (by kernel_rfl)))⟩
      | 14, ho =>
        obtain rfl := Option.some.inj ho
        exact gstep_index rfl (wanted0 rfl) _ _ _ rfl _ _ (eval_at 8 2 _ (by kernel_rfl) (show 8 < 20 by decide) (hI.1 2 (hW 2 (by kernel_rfl)))) (eval_at 9 3 _ (by kernel_rfl) (show 9 < 20 by decide) (hI.1 3 (hW 3 (by kernel_rfl)))) _ (run_tix _ _ _ _ _ HJ.out HN.out) ⟨_, rfl, IFJ.step hI rfl (hI.2.pure (by decide) (by decide) (by decide))⟩
      | n + 15, ho => omega
  · intro o ho b x w1 hI hA
    obtain rfl := Option.some.inj ho
    have hF11 : x 11 = .pointer (some ⟨p1, 0, none⟩) := hI.1 11 (hA 11 (by decide))
    have hF14 : x 14 = .pointer (some ⟨g, j, none⟩) := hI.1 14 (hA 14 (by decide))
    have hw1 := hI.2.last (hA 13 (by decide))
    subst hw1
    obtain ⟨u, hu⟩ : ∃ u, (w.drew.setCell ⟨g, i, none⟩ (.pointer (some ⟨p2, 0, none⟩))).cell? ⟨g, j, none⟩ = some u := by
      rw [cell_set_at (w := w.drew) HR.out.blk]
      split
      · exact ⟨_, rfl⟩
      · exact ⟨_, HR.out.cell HJ.out⟩
    have hfz : (w.drew.setCell ⟨g, i, none⟩ (.pointer (some ⟨p2, 0, none⟩))).frozen? ⟨g, j, none⟩ = false := by
      have := block_setCell (i := i) (u := .pointer (some ⟨p2, 0, none⟩)) (w := w.drew) HR.out.blk
      simp [World.frozen?, this]
    refine gstep_store rfl (wanted0 rfl) _ _ _ rfl _ _ (eval_at 19 14 _ (by kernel_rfl) (show 19 < 20 by decide) hF14) (eval_at 17 11 _ (by kernel_rfl) (show 17 < 20 by decide) hF11) _ (run_sp _ _ _ _ _ hu hfz) ?_
    have hrow := RowB.swap (w := w.drew) (HR.out.same rfl) HI.out HJ.out
    unfold Fl.ptr at hrow
    rw [← HP1.out, ← HP2.out] at hrow
    have hkeep : ∀ b, b ≠ g → ((w.drew.setCell ⟨g, i, none⟩ (.pointer (some ⟨p2, 0, none⟩))).setCell ⟨g, j, none⟩ (.pointer (some ⟨p1, 0, none⟩))).heap[b]? = w.heap[b]? := fun b hb =>
      (Below.heap_setCell _ ⟨g, j, none⟩ _ b hb).trans (Below.heap_setCell _ ⟨g, i, none⟩ _ b hb)
    refine bodyPost_end (results_none rfl _ _ _) rfl ?_
    refine ⟨rfl, ⟨by rw [swapL_len]; exact HN.out, fun f hf => ?_, .inr ⟨g, c, _, by rw [swapL_len], hrow⟩⟩, ⟨rfl, rfl, rfl, by simp, fun b hb hne => hkeep b (fun e => hne (by rw [e]; rfl))⟩⟩
    have hf0 := HW.out.2.1 f ((swapL_perm HI.out HJ.out).subset hf)
    exact hf0.same (hkeep _ (hf0.ne_row HR.out.blk))
end Go.Proofs.Ytfijidaohlnphaa
