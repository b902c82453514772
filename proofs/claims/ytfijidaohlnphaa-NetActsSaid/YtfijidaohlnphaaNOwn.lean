/- own: a message in memory of its own. No conditions beyond those in each statement. -/
import Derived.Test.YtfijidaohlnphaaNClone
namespace Go.Proofs.Ytfijidaohlnphaa
open Go.RowKit
set_option linter.unusedVariables false
set_option linter.unusedSimpArgs false
set_option maxRecDepth 100000

theorem own_results (W : World) (tmps : Array Value) (b : Nat) (u v : Value) (n : Mg) (h2 : tmps.getD 2 undef = .pointer (some ⟨b, 0, none⟩)) (hN : MgB W b u v n) :
    (results Try.f16 tmps).run Try.prog W = .ok (mgV u v n) W := by
  obtain ⟨⟨c0, c1, c2, c3, c4, c5, c6, c7, c8, c9, c10, c11, c12, c13, c14, c15, c16⟩, _⟩ := MgB.cells hN
  rw [Array.getD_eq_getD_getElem?] at h2
  simp [results, Try.results16, go_sem, h2, c0, c1, c2, c3, c4, c5, c6, c7, c8, c9, c10, c11, c12, c13, c14, c15, c16, mgV]
theorem MgB.put8 {x : World} {b : Nat} {u v : Value} {m : Mg} (h : MgB x b u v m) (y : Value) : MgB (x.setCell ⟨b, 8, none⟩ y) b y v m := by
  unfold MgB mgA at h ⊢
  have h0 := block_setCell (i := 8) (u := y) h
  simp only [List.setIfInBounds_toArray, List.set_cons_zero, List.set_cons_succ] at h0
  exact h0
theorem MgB.put14 {x : World} {b : Nat} {u v : Value} {m : Mg} (h : MgB x b u v m) (y : Value) : MgB (x.setCell ⟨b, 14, none⟩ y) b u y m := by
  unfold MgB mgA at h ⊢
  have h0 := block_setCell (i := 14) (u := y) h
  simp only [List.setIfInBounds_toArray, List.set_cons_zero, List.set_cons_succ] at h0
  exact h0
set_option maxHeartbeats 8000000 in
theorem own_any {K : Nat → Prop} {w : World} {u v : Value} {m : Mg} {n1 n2 : Nat} (hu : RdK 3 K w u n1) (hv : RdK 1 K w v n2) (hK : ∀ b, K b → b < w.heap.size) (h1 : n1 * 32 ≤ 140737488355328) (h2 : n2 * 4 ≤ 140737488355328) :
    Calls Try.prog 16 #[mgV u v m] w fun e w' => ∃ a c a2 c2, e = .returned (mgV (.slice a n1 c) (.slice a2 n2 c2) m) ∧ Below w.heap.size w w' := by
  have HC1 : Hid (∀ W, Below w.heap.size w W → Calls Try.prog 19 #[u] W fun e w' => ∃ a c, e = .returned (.slice a n1 c) ∧ Below W.heap.size W w') := Lib.hid fun W hW => clone_en (hu.keep fun b hb => hW.block b (hK b hb)) h1
  have HC2 : Hid (∀ W, Below w.heap.size w W → Calls Try.prog 20 #[v] W fun e w' => ∃ a c, e = .returned (.slice a n2 c) ∧ Below W.heap.size W w') := Lib.hid fun W hW => clone_sm (hv.keep fun b hb => hW.block b (hK b hb)) h2
  obtain ⟨a0, c0, hu0⟩ := hu.form
  obtain ⟨a9, c9, hv9⟩ := hv.form
  subst hu0 hv9
  have N1 := (MgB.new w (.slice a0 n1 c0) (.slice a9 n2 c9) m).below ((Below.refl _ _).alloc (Nat.le_refl _) (.cells (mgA (.slice none 0 0) (.slice none 0 0) Mg.zero) 41))
  have Z1 := MgB.new (w.alloc (.cells (mgA (.slice a0 n1 c0) (.slice a9 n2 c9) m) 41)) (.slice none 0 0) (.slice none 0 0) Mg.zero
  have bA := ((Below.refl w.heap.size w).alloc (Nat.le_refl _) (.cells (mgA (.slice a0 n1 c0) (.slice a9 n2 c9) m) 41)).alloc (by simp) (.cells (mgA (.slice none 0 0) (.slice none 0 0) Mg.zero) 41)
  obtain ⟨W1, hW1⟩ : ∃ W, W = (w.alloc (.cells (mgA (.slice a0 n1 c0) (.slice a9 n2 c9) m) 41)).alloc (.cells (mgA (.slice none 0 0) (.slice none 0 0) Mg.zero) 41) := ⟨_, rfl⟩
  have hs1 : W1.heap.size = w.heap.size + 2 := by rw [hW1]; simp
  rw [← hW1] at N1 Z1 bA
  have hz : (w.alloc (.cells (mgA (.slice a0 n1 c0) (.slice a9 n2 c9) m) 41)).heap.size = w.heap.size + 1 := by simp
  rw [hz] at Z1
  unfold mgA at hW1
  simp only [Mg.zero] at hW1
  have HN1 := Lib.hid N1
  have HZ1 := Lib.hid Z1
  have HBA := Lib.hid bA
  have HWW := Lib.hid hW1
  have HSZ := Lib.hid hs1
  have HR1 := Lib.hid (HC1.out W1 bA)
  obtain ⟨b, hb⟩ : ∃ b, b = w.heap.size := ⟨_, rfl⟩
  have HBB := Lib.hid hb
  clear hu hv h1 h2 N1 Z1 bA hs1 hz hK HC1 hW1 hb
  unfold mgV
  go_enter Try.func16, Try.ntmps16
  go_wp2_with fail
  rw [← HWW.out, ← HBB.out]
  refine HR1.out.mono ?_
  rintro e w3 ⟨a3, c3, rfl, b3⟩
  rw [← HBB.out] at HN1 HZ1
  have hbz : b + 2 ≤ w3.heap.size := by have := b3.size; have := HSZ.out; have := HBB.out; omega
  have N3 := HN1.out.below b3
  have Z3 := HZ1.out.below b3
  have B3 := HBA.out.trans (b3.mono HBA.out.size)
  have P3 := N3.put8 (.slice a3 n1 c3)
  have Q3 := Z3.set (b := b) (i := 8) (x := .slice a3 n1 c3) (by omega)
  have hwb : w.heap.size ≤ b := by rw [HBB.out]; exact Nat.le_refl _
  have B4 : Below w.heap.size w (w3.setCell ⟨b, 8, none⟩ (.slice a3 n1 c3)) := B3.setCell hwb _
  have HR2 := Lib.hid (HC2.out _ B4)
  have c8 := N3.cells.1.2.2.2.2.2.2.2.2.1
  have c14 := N3.cells.1.2.2.2.2.2.2.2.2.2.2.2.2.2.2.1
  have f8 := N3.cells.2.2.2.2.2.2.2.2.2.1
  have HP3 := Lib.hid P3
  have HQ3 := Lib.hid Q3
  have HB4 := Lib.hid B4
  have HWB := Lib.hid hwb
  clear hwb N3 Z3 P3 Q3 B3 B4 b3 HR1 HN1 HZ1 HBA HC2
  go_wp2_with fail
  refine HR2.out.mono ?_
  rintro e w5 ⟨a5, c5, rfl, b5⟩
  have N5 := HP3.out.below b5
  have Z5 := HQ3.out.below b5
  have P5 := N5.put14 (.slice a5 n2 c5)
  have Q5 := Z5.set (b := b) (i := 14) (x := .slice a5 n2 c5) (by omega)
  have B5 : Below w.heap.size w (w5.setCell ⟨b, 14, none⟩ (.slice a5 n2 c5)) := (HB4.out.trans (b5.mono HB4.out.size)).setCell HWB.out _
  have c14' := N5.cells.1.2.2.2.2.2.2.2.2.2.2.2.2.2.2.1
  have f14 := N5.cells.2.2.2.2.2.2.2.2.2.2.2.2.2.2.2.1
  have HLD := Lib.hid (run_loadM P5)
  obtain ⟨W8, hst, M8, k8, o8⟩ := storeM (a := a3) (n := n1) (c := c3) (sa := a5) (k := n2) (sc := c5) Q5 m
  have HST := Lib.hid hst
  have HM8 := Lib.hid M8
  have HB8 := Lib.hid (k8 w.heap.size w (by rw [HBB.out]; omega) B5)
  unfold mgV at HLD HST
  clear c8 c14 f8 HP3 HQ3 HB4 HR2 N5 Z5 P5 Q5 B5 b5 hst M8 k8 o8
  go_wp2_with (first | (refine wpList_store_run HST.out rfl rfl rfl rfl ?_) | (refine wpList_load_run HLD.out rfl rfl rfl ?_))
  exact bodyPost_ret (own_results _ _ (b + 1) _ _ m rfl HM8.out) rfl ⟨a3, c3, a5, c5, rfl, HB8.out⟩
end Go.Proofs.Ytfijidaohlnphaa
