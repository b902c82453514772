/- A transit's Pop: the last flight is removed. No conditions beyond those in each statement. -/
import Derived.Test.YtfijidaohlnphaaNApp
namespace Go.Proofs.Ytfijidaohlnphaa
open Go.RowKit
set_option linter.unusedVariables false
set_option linter.unusedSimpArgs false
set_option maxRecDepth 100000

theorem getD_take {L : List Fl} {m j : Nat} (hj : j < m) : (L.take m).getD j Fl.zero = L.getD j Fl.zero := by
  simp [List.getD_eq_getElem?_getD, List.getElem?_take, hj]
/-- The row behind the removal. -/
theorem RowB.popped {w : World} {base g cap m : Nat} {cur : Array Value} {L : List Fl} (h : RowB w base g cap cur L) (hm : m < L.length) {w' : World} {x : Value} (e : w'.heap[g]? = some (.cells (cur.setIfInBounds m x) 55 (0, 0))) : RowB w' base g m (cur.setIfInBounds m x) (L.take m) := by
  have h1 := h.len
  have h2 := h.fit
  have h3 := h.big
  refine ⟨h.low, e, by rw [List.length_take]; omega, by simp; omega, by omega, fun j hj => ?_⟩
  rw [List.length_take] at hj
  rw [Array.getElem?_setIfInBounds, if_neg (by omega), getD_take (by omega)]
  exact h.at_ j (by omega)
set_option maxHeartbeats 4000000 in
theorem tpop_any {w : World} {base nb : Nat} {now sent : Int} {v : Value} {L : List Fl} (h : NRow w base v L) (hn : NBx w nb now sent v) (m : Nat) (hm : L.length = m + 1) :
    Calls Try.prog 42 #[.pointer (some ⟨nb, 2, none⟩)] w fun e w' => e = .returned (.iface 55 (L.getD m Fl.zero).ptr) ∧ ∃ v', NRow w' base v' (L.take m) ∧ NBx w' nb now sent v' ∧ v'.ownBlock = v.ownBlock ∧ FrN nb v.ownBlock w w' := by
  have hl := h.1
  obtain ⟨a, c, rfl, ha⟩ := h.form
  obtain ⟨g, cur, rfl, hr⟩ := ha (by omega)
  have HR := Lib.hid hr
  have HW := Lib.hid h
  have HN := Lib.hid hn
  have HM := Lib.hid hm
  have c2 := hn.c2
  have cm := hr.cell (j := m) (by omega)
  have f2 := hn.fz 2
  have fm := hr.fz m
  have hbn : nb < w.heap.size := hn.lt
  have hcl : m + 1 ≤ c := by have := hr.len; omega
  have hne : nb ≠ g := hn.ne_row hr.blk
  have HNE := Lib.hid hne
  rw [hm] at c2 ⊢
  obtain ⟨p, hp⟩ : ∃ p, p = (L.getD m Fl.zero).p := ⟨_, rfl⟩
  unfold Fl.ptr at cm ⊢
  rw [← hp] at cm ⊢
  have e1 : wrap64 (m : Int) = (m : Int) := IntWalk.wrap64_in _ (by omega)
  have m0 : (0 : Int) ≤ (m : Int) := by omega
  have m1 : (m : Int) < ((m + 1 : Nat) : Int) := by omega
  have m2 : (m : Int) ≤ (c : Int) := by omega
  have m3 : m ≤ c := by omega
  have hne1 : ¬ nb = g := hne
  have hne2 : ¬ g = nb := fun e => hne e.symm
  clear h hn hm hp hr ha hne
  go_enter Try.func42, Try.ntmps42
  go_wp2_with fail
  go_ret
  have hk : ∀ b, b ≠ g → b ≠ nb → ((w.setCell ⟨g, m, none⟩ (.pointer none)).setCell ⟨nb, 2, none⟩ (.slice (some ⟨g, 0, none⟩) m m)).heap[b]? = w.heap[b]? := fun b h1 h2 =>
    (Below.heap_setCell _ ⟨nb, 2, none⟩ _ b h2).trans (Below.heap_setCell _ ⟨g, m, none⟩ _ b h1)
  have hmn : (L.take m).length = m := by rw [List.length_take, HM.out]; omega
  refine ⟨rfl, .slice (some ⟨g, 0, none⟩) m m, ⟨by rw [hmn]; have := HM.out; omega, fun f hf => ?_, .inr ⟨g, m, cur.setIfInBounds m (.pointer none), by rw [hmn], ?_⟩⟩, ?_, rfl, ?_⟩
  · have hf0 := HW.out.2.1 f (List.mem_of_mem_take hf)
    exact hf0.same (hk _ (hf0.ne_row HR.out.blk) (Ne.symm (HN.out.ne_fl hf0)))
  · exact HR.out.popped (by rw [HM.out]; omega) ((Below.heap_setCell _ ⟨nb, 2, none⟩ _ g hne2).trans (block_setCell HR.out.blk))
  · exact (HN.out.same (Below.heap_setCell _ ⟨g, m, none⟩ _ nb hne1)).set2 _
  · exact ⟨rfl, rfl, rfl, by simp, fun b hb h1 h2 => hk b (fun e => h2 (by rw [e]; rfl)) h1⟩
end Go.Proofs.Ytfijidaohlnphaa
