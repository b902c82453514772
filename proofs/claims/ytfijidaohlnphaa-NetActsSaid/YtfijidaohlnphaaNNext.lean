/- Net.Next: what is due first. No conditions beyond those in each statement. -/
import Derived.Test.YtfijidaohlnphaaNNextB
namespace Go.Proofs.Ytfijidaohlnphaa
open Go.RowKit
set_option linter.unusedVariables false
set_option linter.unusedSimpArgs false
set_option maxRecDepth 100000

def FNil : Nat → Value → Prop
  | 0, x => x = .pointer none
  | 1, x => x = .bool true
  | 2, x => x = .bool true
  | 9, x => x = .bool true
  | 10, x => x = .bool true
  | _, _ => True
def FEmp (nb : Nat) (v : Value) : Nat → Value → Prop
  | 0, x => x = .pointer (some ⟨nb, 0, none⟩)
  | 1, x => x = .bool false
  | 2, x => x = .bool false
  | 3, x => x = .pointer (some ⟨nb, 0, none⟩)
  | 4, x => x = .pointer (some ⟨nb, 0, none⟩)
  | 5, x => x = .pointer (some ⟨nb, 2, none⟩)
  | 6, x => x = v
  | 7, x => x = .int .i64 0
  | 8, x => x = .bool true
  | 9, x => x = .bool true
  | 10, x => x = .bool true
  | _, _ => True
def FFul (nb n g p : Nat) (v : Value) (due now : Int) : Nat → Value → Prop
  | 0, x => x = .pointer (some ⟨nb, 0, none⟩)
  | 1, x => x = .bool false
  | 2, x => x = .bool false
  | 3, x => x = .pointer (some ⟨nb, 0, none⟩)
  | 4, x => x = .pointer (some ⟨nb, 0, none⟩)
  | 5, x => x = .pointer (some ⟨nb, 2, none⟩)
  | 6, x => x = v
  | 7, x => x = .int .i64 n
  | 8, x => x = .bool false
  | 9, x => x = .bool false
  | 10, x => x = .bool false
  | 11, x => x = .pointer (some ⟨nb, 0, none⟩)
  | 12, x => x = .pointer (some ⟨nb, 0, none⟩)
  | 13, x => x = .pointer (some ⟨nb, 2, none⟩)
  | 14, x => x = v
  | 15, x => x = .pointer (some ⟨g, 0, none⟩)
  | 16, x => x = .pointer (some ⟨p, 0, none⟩)
  | 17, x => x = .pointer (some ⟨p, 0, none⟩)
  | 18, x => x = .pointer (some ⟨p, 0, none⟩)
  | 19, x => x = .int .i64 due
  | 20, x => x = .pointer (some ⟨nb, 0, none⟩)
  | 21, x => x = .pointer (some ⟨nb, 0, none⟩)
  | 22, x => x = .pointer (some ⟨nb, 0, none⟩)
  | 23, x => x = .int .i64 now
  | 24, x => x = .bool (decide (now < due))
  | _, _ => True
set_option maxHeartbeats 8000000 in
theorem next_nil (w : World) : Calls Try.prog 9 #[.pointer none] w fun e w' => e = .returned (.tuple #[mgV (.slice none 0 0) (.slice none 0 0) Mg.zero, .bool false]) ∧ Below w.heap.size w w' := by
  have Z1 := MgB.new w (.slice none 0 0) (.slice none 0 0) Mg.zero
  obtain ⟨W1, hW1⟩ : ∃ W, W = (w.alloc (.cells (mgA (.slice none 0 0) (.slice none 0 0) Mg.zero) 41)) := ⟨_, rfl⟩
  have bA := (Below.refl w.heap.size w).alloc (Nat.le_refl _) (.cells (mgA (.slice none 0 0) (.slice none 0 0) Mg.zero) 41)
  rw [← hW1] at Z1 bA
  obtain ⟨W8, hst, M8, k8⟩ := zeroM (W := W1.drew) Z1
  have HST := Lib.hid hst
  have HM8 := Lib.hid M8
  have HB8 := Lib.hid (k8 w.heap.size w (Nat.le_refl _) bA.drew)
  unfold mgV at HST
  unfold mgA at hW1
  simp only [Mg.zero] at hW1 HST
  have HWW := Lib.hid hW1
  have HARM : Hid True := Lib.hid trivial
  clear Z1 bA hst M8 k8 hW1
  go_enter Try.func9, Try.ntmps9
  go_upto_region 1 with fail
  rw [← HWW.out]
  refine wp_region_inv_last 25 (IFJ (FNil) (fun _ _ W => W = W1.drew)) (by kernel_rfl) (by kernel_rfl) (by kernel_rfl) (by kernel_rfl) (by kernel_rfl) ?_ ?_ ?_
  · intro x
    exact ⟨fun j hj => (by cases hj), rfl⟩
  · intro k o hk ho b x w1 hI hbi hW
    match k, ho with
      | 0, ho =>
        obtain rfl := Option.some.inj ho
        exact gstep_move rfl (wanted0 rfl) _ rfl _ (eval_of 0 _ (by kernel_rfl) rfl) ⟨_, rfl, IFJ.step hI rfl hI.2⟩
      | 1, ho =>
        obtain rfl := Option.some.inj ho
        exact gstep_bin rfl (wanted0 rfl) _ _ _ _ _ rfl _ _ (eval_at 5 0 _ (by kernel_rfl) (show 5 < 42 by decide) (hI.1 0 (hW 0 (by kernel_rfl)))) rfl _ (run_eqn w1 _ _) ⟨_, rfl, IFJ.step hI rfl hI.2⟩
      | 2, ho =>
        obtain rfl := Option.some.inj ho
        exact gstep_move rfl (wanted0 rfl) _ rfl _ (eval_at 6 1 _ (by kernel_rfl) (show 6 < 42 by decide) (hI.1 1 (hW 1 (by kernel_rfl)))) ⟨_, rfl, IFJ.step hI rfl hI.2⟩
      | 3, ho =>
        obtain rfl := Option.some.inj ho
        exact gstep_skip rfl (wanted_at 7 2 false _ false rfl (by kernel_rfl) (show 7 < 42 by decide) (hI.1 2 (hW 2 (by kernel_rfl))) rfl) ⟨_, rfl, IFJ.step hI trivial hI.2⟩
      | 4, ho =>
        obtain rfl := Option.some.inj ho
        exact gstep_skip rfl (wanted_at 7 2 false _ false rfl (by kernel_rfl) (show 7 < 42 by decide) (hI.1 2 (hW 2 (by kernel_rfl))) rfl) ⟨_, rfl, IFJ.step hI trivial hI.2⟩
      | 5, ho =>
        obtain rfl := Option.some.inj ho
        exact gstep_skip rfl (wanted_at 7 2 false _ false rfl (by kernel_rfl) (show 7 < 42 by decide) (hI.1 2 (hW 2 (by kernel_rfl))) rfl) ⟨_, rfl, IFJ.step hI trivial hI.2⟩
      | 6, ho =>
        obtain rfl := Option.some.inj ho
        exact gstep_skip rfl (wanted_at 7 2 false _ false rfl (by kernel_rfl) (show 7 < 42 by decide) (hI.1 2 (hW 2 (by kernel_rfl))) rfl) ⟨_, rfl, IFJ.step hI trivial hI.2⟩
      | 7, ho =>
        obtain rfl := Option.some.inj ho
        exact gstep_skip rfl (wanted_at 7 2 false _ false rfl (by kernel_rfl) (show 7 < 42 by decide) (hI.1 2 (hW 2 (by kernel_rfl))) rfl) ⟨_, rfl, IFJ.step hI trivial hI.2⟩
      | 8, ho =>
        obtain rfl := Option.some.inj ho
        exact gstep_skip rfl (wanted_at 7 2 false _ false rfl (by kernel_rfl) (show 7 < 42 by decide) (hI.1 2 (hW 2 (by kernel_rfl))) rfl) ⟨_, rfl, IFJ.step hI trivial hI.2⟩
      | 9, ho =>
        obtain rfl := Option.some.inj ho
        exact gstep_pick rfl (wanted0 rfl) _ _ _ rfl _ (eval_at 7 2 _ (by kernel_rfl) (show 7 < 42 by decide) (hI.1 2 (hW 2 (by kernel_rfl)))) _ (by rw [if_pos rfl]; exact rfl) ⟨_, rfl, IFJ.step hI rfl hI.2⟩
      | 10, ho =>
        obtain rfl := Option.some.inj ho
        exact gstep_move rfl (wanted0 rfl) _ rfl _ (eval_at 14 9 _ (by kernel_rfl) (show 14 < 42 by decide) (hI.1 9 (hW 9 (by kernel_rfl)))) ⟨_, rfl, IFJ.step hI rfl hI.2⟩
      | 11, ho =>
        obtain rfl := Option.some.inj ho
        exact gstep_skip rfl (wanted_at 15 10 false _ false rfl (by kernel_rfl) (show 15 < 42 by decide) (hI.1 10 (hW 10 (by kernel_rfl))) rfl) ⟨_, rfl, IFJ.step hI trivial hI.2⟩
      | 12, ho =>
        obtain rfl := Option.some.inj ho
        exact gstep_skip rfl (wanted_at 15 10 false _ false rfl (by kernel_rfl) (show 15 < 42 by decide) (hI.1 10 (hW 10 (by kernel_rfl))) rfl) ⟨_, rfl, IFJ.step hI trivial hI.2⟩
      | 13, ho =>
        obtain rfl := Option.some.inj ho
        exact gstep_skip rfl (wanted_at 15 10 false _ false rfl (by kernel_rfl) (show 15 < 42 by decide) (hI.1 10 (hW 10 (by kernel_rfl))) rfl) ⟨_, rfl, IFJ.step hI trivial hI.2⟩
      | 14, ho =>
        obtain rfl := Option.some.inj ho
        exact gstep_skip rfl (wanted_at 15 10 false _ false rfl (by kernel_rfl) (show 15 < 42 by decide) (hI.1 10 (hW 10 (by kernel_rfl))) rfl) ⟨_, rfl, IFJ.step hI trivial hI.2⟩
      | 15, ho =>
        obtain rfl := Option.some.inj ho
        exact gstep_skip rfl (wanted_at 15 10 false _ false rfl (by kernel_rfl) (show 15 < 42 by decide) (hI.1 10 (hW 10 (by kernel_rfl))) rfl) ⟨_, rfl, IFJ.step hI trivial hI.2⟩
      | 16, ho =>
        obtain rfl := Option.some.inj ho
        exact gstep_skip rfl (wanted_at 15 10 false _ false rfl (by kernel_rfl) (show 15 < 42 by decide) (hI.1 10 (hW 10 (by kernel_rfl))) rfl) ⟨_, rfl, IFJ.step hI trivial hI.2⟩
      | 17, ho =>
        obtain rfl := Option.some.inj ho
        exact gstep_skip rfl (wanted_at 15 10 false _ false rfl (by kernel_rfl) (show 15 < 42 by decide) (hI.1 10 (hW 10 (by kernel_rfl))) rfl) ⟨_, rfl, IFJ.step hI trivial hI.2⟩
      | 18, ho =>
        obtain rfl := Option.some.inj ho
        exact gstep_skip rfl (wanted_at 15 10 false _ false rfl (by kernel_rfl) (show 15 < 42 by decide) (hI.1 10 (hW 10 (by kernel_rfl))) rfl) ⟨_, rfl, IFJ.step hI trivial hI.2⟩
      | 19, ho =>
        obtain rfl := Option.some.inj ho
        exact gstep_skip rfl (wanted_at 15 10 false _ false rfl (by kernel_rfl) (show 15 < 42 by decide) (hI.1 10 (hW 10 (by kernel_rfl))) rfl) ⟨_, rfl, IFJ.step hI trivial hI.2⟩
      | 20, ho =>
        obtain rfl := Option.some.inj ho
        exact gstep_skip rfl (wanted_at 15 10 false _ false rfl (by kernel_rfl) (show 15 < 42 by decide) (hI.1 10 (hW 10 (by kernel_rfl))) rfl) ⟨_, rfl, IFJ.step hI trivial hI.2⟩
      | 21, ho =>
        obtain rfl := Option.some.inj ho
        exact gstep_skip rfl (wanted_at 15 10 false _ false rfl (by kernel_rfl) (show 15 < 42 by decide) (hI.1 10 (hW 10 (by kernel_rfl))) rfl) ⟨_, rfl, IFJ.step hI trivial hI.2⟩
      | 22, ho =>
        obtain rfl := Option.some.inj ho
        exact gstep_skip rfl (wanted_at 15 10 false _ false rfl (by kernel_rfl) (show 15 < 42 by decide) (hI.1 10 (hW 10 (by kernel_rfl))) rfl) ⟨_, rfl, IFJ.step hI trivial hI.2⟩
      | 23, ho =>
        obtain rfl := Option.some.inj ho
        exact gstep_skip rfl (wanted_at 15 10 false _ false rfl (by kernel_rfl) (show 15 < 42 by decide) (hI.1 10 (hW 10 (by kernel_rfl))) rfl) ⟨_, rfl, IFJ.step hI trivial hI.2⟩
      | 24, ho =>
        obtain rfl := Option.some.inj ho
        exact gstep_skip rfl (wanted_at 15 10 false _ false rfl (by kernel_rfl) (show 15 < 42 by decide) (hI.1 10 (hW 10 (by kernel_rfl))) rfl) ⟨_, rfl, IFJ.step hI trivial hI.2⟩
      | n + 25, ho => omega
  · intro o ho b x w1 hI hA
    obtain rfl := Option.some.inj ho
    refine gstep_pick rfl (wanted0 rfl) _ _ _ rfl _ (eval_at 15 10 _ (by kernel_rfl) (show 15 < 42 by decide) (hI.1 10 (hA 10 (by decide)))) _ (if_pos rfl) ?_
    simp only [putAll, Act.put, List.setIfInBounds_toArray, List.set_cons_succ, List.set_cons_zero]
    obtain rfl := hI.2
    clear hI hA
    clear HARM
    go_wp2_with (first | (refine wpList_store_run HST.out rfl rfl rfl rfl ?_))
    exact bodyPost_ret (next_results _ _ w.heap.size _ _ Mg.zero false rfl rfl HM8.out) rfl ⟨rfl, HB8.out⟩
set_option maxHeartbeats 8000000 in
theorem next_empty {w : World} {base nb : Nat} {now sent : Int} {v : Value} (h : NHp w base nb now sent v []) : Calls Try.prog 9 #[.pointer (some ⟨nb, 0, none⟩)] w fun e w' => e = .returned (.tuple #[mgV (.slice none 0 0) (.slice none 0 0) Mg.zero, .bool false]) ∧ Below w.heap.size w w' := by
  have Z1 := MgB.new w (.slice none 0 0) (.slice none 0 0) Mg.zero
  obtain ⟨W1, hW1⟩ : ∃ W, W = (w.alloc (.cells (mgA (.slice none 0 0) (.slice none 0 0) Mg.zero) 41)) := ⟨_, rfl⟩
  have bA := (Below.refl w.heap.size w).alloc (Nat.le_refl _) (.cells (mgA (.slice none 0 0) (.slice none 0 0) Mg.zero) 41)
  rw [← hW1] at Z1 bA
  obtain ⟨W8, hst, M8, k8⟩ := zeroM (W := W1.drew) Z1
  have HST := Lib.hid hst
  have HM8 := Lib.hid M8
  have HB8 := Lib.hid (k8 w.heap.size w (Nat.le_refl _) bA.drew)
  unfold mgV at HST
  unfold mgA at hW1
  simp only [Mg.zero] at hW1 HST
  have HWW := Lib.hid hW1
  have HARM : Hid True := Lib.hid trivial
  have HC2 := Lib.hid (show W1.drew.cell? ⟨nb, 2, none⟩ = some v from (bA.cell (p := ⟨nb, 2, none⟩) h.box.lt).trans h.box.c2)
  have HC0 := Lib.hid (show W1.drew.cell? ⟨nb, 0, none⟩ = some (.int .i64 now) from (bA.cell (p := ⟨nb, 0, none⟩) h.box.lt).trans h.box.c0)
  have HV := Lib.hid h.row.sl
  have HLN : Hid (∀ W : World, Calls Try.prog 14 #[v] W fun e w' => e = .returned (.int .i64 0) ∧ w' = W) := Lib.hid fun W => by
    obtain ⟨a, c, rfl, _⟩ := h.row.form
    exact len_any a 0 c W
  have HNB : Hid (((0 : Int) == 0) = true) := Lib.hid rfl
  clear Z1 bA hst M8 k8 hW1 h
  go_enter Try.func9, Try.ntmps9
  go_upto_region 1 with fail
  rw [← HWW.out]
  refine wp_region_inv_last 25 (IFJ (FEmp nb v) (fun _ _ W => W = W1.drew)) (by kernel_rfl) (by kernel_rfl) (by kernel_rfl) (by kernel_rfl) (by kernel_rfl) ?_ ?_ ?_
  · intro x
    exact ⟨fun j hj => (by cases hj), rfl⟩
  · intro k o hk ho b x w1 hI hbi hW
    match k, ho with
      | 0, ho =>
        obtain rfl := Option.some.inj ho
        exact gstep_move rfl (wanted0 rfl) _ rfl _ (eval_of 0 _ (by kernel_rfl) rfl) ⟨_, rfl, IFJ.step hI rfl hI.2⟩
      | 1, ho =>
        obtain rfl := Option.some.inj ho
        exact gstep_bin rfl (wanted0 rfl) _ _ _ _ _ rfl _ _ (eval_at 5 0 _ (by kernel_rfl) (show 5 < 42 by decide) (hI.1 0 (hW 0 (by kernel_rfl)))) rfl _ (run_eqp w1 _ _ _) ⟨_, rfl, IFJ.step hI rfl hI.2⟩
      | 2, ho =>
        obtain rfl := Option.some.inj ho
        exact gstep_move rfl (wanted0 rfl) _ rfl _ (eval_at 6 1 _ (by kernel_rfl) (show 6 < 42 by decide) (hI.1 1 (hW 1 (by kernel_rfl)))) ⟨_, rfl, IFJ.step hI rfl hI.2⟩
      | 3, ho =>
        obtain rfl := Option.some.inj ho
        exact gstep_move rfl (wanted_at 7 2 false _ true rfl (by kernel_rfl) (show 7 < 42 by decide) (hI.1 2 (hW 2 (by kernel_rfl))) rfl) _ rfl _ (eval_of 0 _ (by kernel_rfl) rfl) ⟨_, rfl, IFJ.step hI rfl hI.2⟩
      | 4, ho =>
        obtain rfl := Option.some.inj ho
        exact gstep_nil rfl (wanted_at 7 2 false _ true rfl (by kernel_rfl) (show 7 < 42 by decide) (hI.1 2 (hW 2 (by kernel_rfl))) rfl) _ rfl _ (eval_at 8 3 _ (by kernel_rfl) (show 8 < 42 by decide) (hI.1 3 (hW 3 (by kernel_rfl)))) ⟨_, rfl, IFJ.step hI rfl hI.2⟩
      | 5, ho =>
        obtain rfl := Option.some.inj ho
        exact gstep_field rfl (wanted_at 7 2 false _ true rfl (by kernel_rfl) (show 7 < 42 by decide) (hI.1 2 (hW 2 (by kernel_rfl))) rfl) _ _ _ rfl _ (eval_at 9 4 _ (by kernel_rfl) (show 9 < 42 by decide) (hI.1 4 (hW 4 (by kernel_rfl)))) _ (run_fN2 _ _) ⟨_, rfl, IFJ.step hI rfl hI.2⟩
      | 6, ho =>
        obtain rfl := Option.some.inj ho
        exact gstep_load rfl (wanted_at 7 2 false _ true rfl (by kernel_rfl) (show 7 < 42 by decide) (hI.1 2 (hW 2 (by kernel_rfl))) rfl) _ _ rfl _ (eval_at 10 5 _ (by kernel_rfl) (show 10 < 42 by decide) (hI.1 5 (hW 5 (by kernel_rfl)))) _ (run_lt w1 nb v (by rw [hI.2]; exact HC2.out) HV.out) ⟨_, rfl, IFJ.step hI rfl hI.2⟩
      | 7, ho =>
        obtain rfl := Option.some.inj ho
        refine gstep_call rfl (wanted_at 7 2 false _ true rfl (by kernel_rfl) (show 7 < 42 by decide) (hI.1 2 (hW 2 (by kernel_rfl))) rfl) _ _ _ rfl _ (eval_at 11 6 _ (by kernel_rfl) (show 11 < 42 by decide) (hI.1 6 (hW 6 (by kernel_rfl)))) (call_len w1 _) ?_
        obtain ⟨a1, n1, c1, hv1⟩ := HV.out
        refine (HLN.out w1).mono ?_
        rintro e w2 ⟨rfl, rfl⟩
        exact ⟨_, rfl, _, rfl, IFJ.step hI rfl hI.2⟩
      | 8, ho =>
        obtain rfl := Option.some.inj ho
        exact gstep_bin rfl (wanted_at 7 2 false _ true rfl (by kernel_rfl) (show 7 < 42 by decide) (hI.1 2 (hW 2 (by kernel_rfl))) rfl) _ _ _ _ _ rfl _ _ (eval_at 12 7 _ (by kernel_rfl) (show 12 < 42 by decide) (hI.1 7 (hW 7 (by kernel_rfl)))) rfl _ (run_eq0 w1 _ _ HNB.out _ _) ⟨_, rfl, IFJ.step hI rfl hI.2⟩
      | 9, ho =>
        obtain rfl := Option.some.inj ho
        exact gstep_pick rfl (wanted0 rfl) _ _ _ rfl _ (eval_at 7 2 _ (by kernel_rfl) (show 7 < 42 by decide) (hI.1 2 (hW 2 (by kernel_rfl)))) _ (by rw [if_neg (by decide)]; exact (eval_at 13 8 _ (by kernel_rfl) (show 13 < 42 by decide) (hI.1 8 (hW 8 (by kernel_rfl))))) ⟨_, rfl, IFJ.step hI rfl hI.2⟩
      | 10, ho =>
        obtain rfl := Option.some.inj ho
        exact gstep_move rfl (wanted0 rfl) _ rfl _ (eval_at 14 9 _ (by kernel_rfl) (show 14 < 42 by decide) (hI.1 9 (hW 9 (by kernel_rfl)))) ⟨_, rfl, IFJ.step hI rfl hI.2⟩
      | 11, ho =>
        obtain rfl := Option.some.inj ho
        exact gstep_skip rfl (wanted_at 15 10 false _ false rfl (by kernel_rfl) (show 15 < 42 by decide) (hI.1 10 (hW 10 (by kernel_rfl))) rfl) ⟨_, rfl, IFJ.step hI trivial hI.2⟩
      | 12, ho =>
        obtain rfl := Option.some.inj ho
        exact gstep_skip rfl (wanted_at 15 10 false _ false rfl (by kernel_rfl) (show 15 < 42 by decide) (hI.1 10 (hW 10 (by kernel_rfl))) rfl) ⟨_, rfl, IFJ.step hI trivial hI.2⟩
      | 13, ho =>
        obtain rfl := Option.some.inj ho
        exact gstep_skip rfl (wanted_at 15 10 false _ false rfl (by kernel_rfl) (show 15 < 42 by decide) (hI.1 10 (hW 10 (by kernel_rfl))) rfl) ⟨_, rfl, IFJ.step hI trivial hI.2⟩
      | 14, ho =>
        obtain rfl := Option.some.inj ho
        exact gstep_skip rfl (wanted_at 15 10 false _ false rfl (by kernel_rfl) (show 15 < 42 by decide) (hI.1 10 (hW 10 (by kernel_rfl))) rfl) ⟨_, rfl, IFJ.step hI trivial hI.2⟩
      | 15, ho =>
        obtain rfl := Option.some.inj ho
        exact gstep_skip rfl (wanted_at 15 10 false _ false rfl (by kernel_rfl) (show 15 < 42 by decide) (hI.1 10 (hW 10 (by kernel_rfl))) rfl) ⟨_, rfl, IFJ.step hI trivial hI.2⟩
      | 16, ho =>
        obtain rfl := Option.some.inj ho
        exact gstep_skip rfl (wanted_at 15 10 false _ false rfl (by kernel_rfl) (show 15 < 42 by decide) (hI.1 10 (hW 10 (by kernel_rfl))) rfl) ⟨_, rfl, IFJ.step hI trivial hI.2⟩
      | 17, ho =>
        obtain rfl := Option.some.inj ho
        exact gstep_skip rfl (wanted_at 15 10 false _ false rfl (by kernel_rfl) (show 15 < 42 by decide) (hI.1 10 (hW 10 (by kernel_rfl))) rfl) ⟨_, rfl, IFJ.step hI trivial hI.2⟩
      | 18, ho =>
        obtain rfl := Option.some.inj ho
        exact gstep_skip rfl (wanted_at 15 10 false _ false rfl (by kernel_rfl) (show 15 < 42 by decide) (hI.1 10 (hW 10 (by kernel_rfl))) rfl) ⟨_, rfl, IFJ.step hI trivial hI.2⟩
      | 19, ho =>
        obtain rfl := Option.some.inj ho
        exact gstep_skip rfl (wanted_at 15 10 false _ false rfl (by kernel_rfl) (show 15 < 42 by decide) (hI.1 10 (hW 10 (by kernel_rfl))) rfl) ⟨_, rfl, IFJ.step hI trivial hI.2⟩
      | 20, ho =>
        obtain rfl := Option.some.inj ho
        exact gstep_skip rfl (wanted_at 15 10 false _ false rfl (by kernel_rfl) (show 15 < 42 by decide) (hI.1 10 (hW 10 (by kernel_rfl))) rfl) ⟨_, rfl, IFJ.step hI trivial hI.2⟩
      | 21, ho =>
        obtain rfl := Option.some.inj ho
        exact gstep_skip rfl (wanted_at 15 10 false _ false rfl (by kernel_rfl) (show 15 < 42 by decide) (hI.1 10 (hW 10 (by kernel_rfl))) rfl) ⟨_, rfl, IFJ.step hI trivial hI.2⟩
      | 22, ho =>
        obtain rfl := Option.some.inj ho
        exact gstep_skip rfl (wanted_at 15 10 false _ false rfl (by kernel_rfl) (show 15 < 42 by decide) (hI.1 10 (hW 10 (by kernel_rfl))) rfl) ⟨_, rfl, IFJ.step hI trivial hI.2⟩
      | 23, ho =>
        obtain rfl := Option.some.inj ho
        exact gstep_skip rfl (wanted_at 15 10 false _ false rfl (by kernel_rfl) (show 15 < 42 by decide) (hI.1 10 (hW 10 (by kernel_rfl))) rfl) ⟨_, rfl, IFJ.step hI trivial hI.2⟩
      | 24, ho =>
        obtain rfl := Option.some.inj ho
        exact gstep_skip rfl (wanted_at 15 10 false _ false rfl (by kernel_rfl) (show 15 < 42 by decide) (hI.1 10 (hW 10 (by kernel_rfl))) rfl) ⟨_, rfl, IFJ.step hI trivial hI.2⟩
      | n + 25, ho => omega
  · intro o ho b x w1 hI hA
    obtain rfl := Option.some.inj ho
    refine gstep_pick rfl (wanted0 rfl) _ _ _ rfl _ (eval_at 15 10 _ (by kernel_rfl) (show 15 < 42 by decide) (hI.1 10 (hA 10 (by decide)))) _ (if_pos rfl) ?_
    simp only [putAll, Act.put, List.setIfInBounds_toArray, List.set_cons_succ, List.set_cons_zero]
    obtain rfl := hI.2
    clear hI hA
    clear HARM
    go_wp2_with (first | (refine wpList_store_run HST.out rfl rfl rfl rfl ?_))
    exact bodyPost_ret (next_results _ _ w.heap.size _ _ Mg.zero false rfl rfl HM8.out) rfl ⟨rfl, HB8.out⟩
set_option maxHeartbeats 8000000 in
theorem next_late {w : World} {base nb : Nat} {now sent : Int} {v : Value} {L : List Fl} (h : NHp w base nb now sent v L) (n : Nat) (hn : L.length = n) (hn0 : 0 < n) (hd : now < (L.getD 0 Fl.zero).due) : Calls Try.prog 9 #[.pointer (some ⟨nb, 0, none⟩)] w fun e w' => e = .returned (.tuple #[mgV (.slice none 0 0) (.slice none 0 0) Mg.zero, .bool false]) ∧ Below w.heap.size w w' := by
  have Z1 := MgB.new w (.slice none 0 0) (.slice none 0 0) Mg.zero
  obtain ⟨W1, hW1⟩ : ∃ W, W = (w.alloc (.cells (mgA (.slice none 0 0) (.slice none 0 0) Mg.zero) 41)) := ⟨_, rfl⟩
  have bA := (Below.refl w.heap.size w).alloc (Nat.le_refl _) (.cells (mgA (.slice none 0 0) (.slice none 0 0) Mg.zero) 41)
  rw [← hW1] at Z1 bA
  obtain ⟨W8, hst, M8, k8⟩ := zeroM (W := W1.drew) Z1
  have HST := Lib.hid hst
  have HM8 := Lib.hid M8
  have HB8 := Lib.hid (k8 w.heap.size w (Nat.le_refl _) bA.drew)
  unfold mgV at HST
  unfold mgA at hW1
  simp only [Mg.zero] at hW1 HST
  have HWW := Lib.hid hW1
  have HARM : Hid True := Lib.hid trivial
  have HC2 := Lib.hid (show W1.drew.cell? ⟨nb, 2, none⟩ = some v from (bA.cell (p := ⟨nb, 2, none⟩) h.box.lt).trans h.box.c2)
  have HC0 := Lib.hid (show W1.drew.cell? ⟨nb, 0, none⟩ = some (.int .i64 now) from (bA.cell (p := ⟨nb, 0, none⟩) h.box.lt).trans h.box.c0)
  have HV := Lib.hid h.row.sl
  have HLN : Hid (∀ W : World, Calls Try.prog 14 #[v] W fun e w' => e = .returned (.int .i64 (n : Nat)) ∧ w' = W) := Lib.hid fun W => by
    obtain ⟨a, c, rfl, _⟩ := h.row.form
    rw [← hn]
    exact len_any a L.length c W
  have HNB : Hid (((n : Int) == 0) = false) := Lib.hid (by simp; omega)
  obtain ⟨g, hg, hix, hcg⟩ : ∃ g : Nat, (∀ W : World, (Instr.indexAt 26 v (.int .i64 0)).run Try.prog W = .ok (.pointer (some ⟨g, 0, none⟩)) W) ∧ w.cell? ⟨g, 0, none⟩ = some (L.getD 0 Fl.zero).ptr ∧ g < w.heap.size := by
    obtain ⟨a, c, rfl, ha⟩ := h.row.form
    obtain ⟨g, cur, rfl, hr⟩ := ha (by omega)
    exact ⟨g, fun W => run_tix W g L.length c 0 (by omega) h.row.1, hr.cell (by omega), hr.lt⟩
  have HIX := Lib.hid hg
  have hf0 := h.row.2.1 _ (getD_mem (d := Fl.zero) (k := 0) (L := L) (by omega))
  obtain ⟨f, hf⟩ : ∃ f, f = L.getD 0 Fl.zero := ⟨_, rfl⟩
  rw [← hf] at hix hf0
  unfold Fl.ptr at hix
  have HCG := Lib.hid (show W1.drew.cell? ⟨g, 0, none⟩ = some (.pointer (some ⟨f.p, 0, none⟩)) from (bA.cell (p := ⟨g, 0, none⟩) hcg).trans hix)
  have HCD := Lib.hid (show W1.drew.cell? ⟨f.p, 0, none⟩ = some (.int .i64 f.due) from (bA.cell (p := ⟨f.p, 0, none⟩) hf0.lt).trans hf0.c0)
  rw [← hf] at hd
  have HD1 := Lib.hid (decide_eq_true hd)
  clear Z1 bA hst M8 k8 hW1 h hn hn0 hg hix hcg hf0 hf hd
  go_enter Try.func9, Try.ntmps9
  go_upto_region 1 with fail
  rw [← HWW.out]
  refine wp_region_inv_last 25 (IFJ (FFul nb n g f.p v f.due now) (fun _ _ W => W = W1.drew)) (by kernel_rfl) (by kernel_rfl) (by kernel_rfl) (by kernel_rfl) (by kernel_rfl) ?_ ?_ ?_
  · intro x
    exact ⟨fun j hj => (by cases hj), rfl⟩
  · intro k o hk ho b x w1 hI hbi hW
    match k, ho with
      | 0, ho =>
        obtain rfl := Option.some.inj ho
        exact gstep_move rfl (wanted0 rfl) _ rfl _ (eval_of 0 _ (by kernel_rfl) rfl) ⟨_, rfl, IFJ.step hI rfl hI.2⟩
      | 1, ho =>
        obtain rfl := Option.some.inj ho
        exact gstep_bin rfl (wanted0 rfl) _ _ _ _ _ rfl _ _ (eval_at 5 0 _ (by kernel_rfl) (show 5 < 42 by decide) (hI.1 0 (hW 0 (by kernel_rfl)))) rfl _ (run_eqp w1 _ _ _) ⟨_, rfl, IFJ.step hI rfl hI.2⟩
      | 2, ho =>
        obtain rfl := Option.some.inj ho
        exact gstep_move rfl (wanted0 rfl) _ rfl _ (eval_at 6 1 _ (by kernel_rfl) (show 6 < 42 by decide) (hI.1 1 (hW 1 (by kernel_rfl)))) ⟨_, rfl, IFJ.step hI rfl hI.2⟩
      | 3, ho =>
        obtain rfl := Option.some.inj ho
        exact gstep_move rfl (wanted_at 7 2 false _ true rfl (by kernel_rfl) (show 7 < 42 by decide) (hI.1 2 (hW 2 (by kernel_rfl))) rfl) _ rfl _ (eval_of 0 _ (by kernel_rfl) rfl) ⟨_, rfl, IFJ.step hI rfl hI.2⟩
      | 4, ho =>
        obtain rfl := Option.some.inj ho
        exact gstep_nil rfl (wanted_at 7 2 false _ true rfl (by kernel_rfl) (show 7 < 42 by decide) (hI.1 2 (hW 2 (by kernel_rfl))) rfl) _ rfl _ (eval_at 8 3 _ (by kernel_rfl) (show 8 < 42 by decide) (hI.1 3 (hW 3 (by kernel_rfl)))) ⟨_, rfl, IFJ.step hI rfl hI.2⟩
      | 5, ho =>
        obtain rfl := Option.some.inj ho
        exact gstep_field rfl (wanted_at 7 2 false _ true rfl (by kernel_rfl) (show 7 < 42 by decide) (hI.1 2 (hW 2 (by kernel_rfl))) rfl) _ _ _ rfl _ (eval_at 9 4 _ (by kernel_rfl) (show 9 < 42 by decide) (hI.1 4 (hW 4 (by kernel_rfl)))) _ (run_fN2 _ _) ⟨_, rfl, IFJ.step hI rfl hI.2⟩
      | 6, ho =>
        obtain rfl := Option.some.inj ho
        exact gstep_load rfl (wanted_at 7 2 false _ true rfl (by kernel_rfl) (show 7 < 42 by decide) (hI.1 2 (hW 2 (by kernel_rfl))) rfl) _ _ rfl _ (eval_at 10 5 _ (by kernel_rfl) (show 10 < 42 by decide) (hI.1 5 (hW 5 (by kernel_rfl)))) _ (run_lt w1 nb v (by rw [hI.2]; exact HC2.out) HV.out) ⟨_, rfl, IFJ.step hI rfl hI.2⟩
      | 7, ho =>
        obtain rfl := Option.some.inj ho
        refine gstep_call rfl (wanted_at 7 2 false _ true rfl (by kernel_rfl) (show 7 < 42 by decide) (hI.1 2 (hW 2 (by kernel_rfl))) rfl) _ _ _ rfl _ (eval_at 11 6 _ (by kernel_rfl) (show 11 < 42 by decide) (hI.1 6 (hW 6 (by kernel_rfl)))) (call_len w1 _) ?_
        obtain ⟨a1, n1, c1, hv1⟩ := HV.out
        refine (HLN.out w1).mono ?_
        rintro e w2 ⟨rfl, rfl⟩
        exact ⟨_, rfl, _, rfl, IFJ.step hI rfl hI.2⟩
      | 8, ho =>
        obtain rfl := Option.some.inj ho
        exact gstep_bin rfl (wanted_at 7 2 false _ true rfl (by kernel_rfl) (show 7 < 42 by decide) (hI.1 2 (hW 2 (by kernel_rfl))) rfl) _ _ _ _ _ rfl _ _ (eval_at 12 7 _ (by kernel_rfl) (show 12 < 42 by decide) (hI.1 7 (hW 7 (by kernel_rfl)))) rfl _ (run_eq0 w1 _ _ HNB.out _ _) ⟨_, rfl, IFJ.step hI rfl hI.2⟩
      | 9, ho =>
        obtain rfl := Option.some.inj ho
        exact gstep_pick rfl (wanted0 rfl) _ _ _ rfl _ (eval_at 7 2 _ (by kernel_rfl) (show 7 < 42 by decide) (hI.1 2 (hW 2 (by kernel_rfl)))) _ (by rw [if_neg (by decide)]; exact (eval_at 13 8 _ (by kernel_rfl) (show 13 < 42 by decide) (hI.1 8 (hW 8 (by kernel_rfl))))) ⟨_, rfl, IFJ.step hI rfl hI.2⟩
      | 10, ho =>
        obtain rfl := Option.some.inj ho
        exact gstep_move rfl (wanted0 rfl) _ rfl _ (eval_at 14 9 _ (by kernel_rfl) (show 14 < 42 by decide) (hI.1 9 (hW 9 (by kernel_rfl)))) ⟨_, rfl, IFJ.step hI rfl hI.2⟩
      | 11, ho =>
        obtain rfl := Option.some.inj ho
        exact gstep_move rfl (wanted_at 15 10 false _ true rfl (by kernel_rfl) (show 15 < 42 by decide) (hI.1 10 (hW 10 (by kernel_rfl))) rfl) _ rfl _ (eval_of 0 _ (by kernel_rfl) rfl) ⟨_, rfl, IFJ.step hI rfl hI.2⟩
      | 12, ho =>
        obtain rfl := Option.some.inj ho
        exact gstep_nil rfl (wanted_at 15 10 false _ true rfl (by kernel_rfl) (show 15 < 42 by decide) (hI.1 10 (hW 10 (by kernel_rfl))) rfl) _ rfl _ (eval_at 16 11 _ (by kernel_rfl) (show 16 < 42 by decide) (hI.1 11 (hW 11 (by kernel_rfl)))) ⟨_, rfl, IFJ.step hI rfl hI.2⟩
      | 13, ho =>
        obtain rfl := Option.some.inj ho
        exact gstep_field rfl (wanted_at 15 10 false _ true rfl (by kernel_rfl) (show 15 < 42 by decide) (hI.1 10 (hW 10 (by kernel_rfl))) rfl) _ _ _ rfl _ (eval_at 17 12 _ (by kernel_rfl) (show 17 < 42 by decide) (hI.1 12 (hW 12 (by kernel_rfl)))) _ (run_fN2 _ _) ⟨_, rfl, IFJ.step hI rfl hI.2⟩
      | 14, ho =>
        obtain rfl := Option.some.inj ho
        exact gstep_load rfl (wanted_at 15 10 false _ true rfl (by kernel_rfl) (show 15 < 42 by decide) (hI.1 10 (hW 10 (by kernel_rfl))) rfl) _ _ rfl _ (eval_at 18 13 _ (by kernel_rfl) (show 18 < 42 by decide) (hI.1 13 (hW 13 (by kernel_rfl)))) _ (run_lt w1 nb v (by rw [hI.2]; exact HC2.out) HV.out) ⟨_, rfl, IFJ.step hI rfl hI.2⟩
      | 15, ho =>
        obtain rfl := Option.some.inj ho
        exact gstep_index rfl (wanted_at 15 10 false _ true rfl (by kernel_rfl) (show 15 < 42 by decide) (hI.1 10 (hW 10 (by kernel_rfl))) rfl) _ _ _ rfl _ _ (eval_at 19 14 _ (by kernel_rfl) (show 19 < 42 by decide) (hI.1 14 (hW 14 (by kernel_rfl)))) rfl _ (HIX.out w1) ⟨_, rfl, IFJ.step hI rfl hI.2⟩
      | 16, ho =>
        obtain rfl := Option.some.inj ho
        exact gstep_load rfl (wanted_at 15 10 false _ true rfl (by kernel_rfl) (show 15 < 42 by decide) (hI.1 10 (hW 10 (by kernel_rfl))) rfl) _ _ rfl _ (eval_at 20 15 _ (by kernel_rfl) (show 20 < 42 by decide) (hI.1 15 (hW 15 (by kernel_rfl)))) _ (run_lp w1 _ _ _ (by rw [hI.2]; exact HCG.out)) ⟨_, rfl, IFJ.step hI rfl hI.2⟩
      | 17, ho =>
        obtain rfl := Option.some.inj ho
        exact gstep_nil rfl (wanted_at 15 10 false _ true rfl (by kernel_rfl) (show 15 < 42 by decide) (hI.1 10 (hW 10 (by kernel_rfl))) rfl) _ rfl _ (eval_at 21 16 _ (by kernel_rfl) (show 21 < 42 by decide) (hI.1 16 (hW 16 (by kernel_rfl)))) ⟨_, rfl, IFJ.step hI rfl hI.2⟩
      | 18, ho =>
        obtain rfl := Option.some.inj ho
        exact gstep_field rfl (wanted_at 15 10 false _ true rfl (by kernel_rfl) (show 15 < 42 by decide) (hI.1 10 (hW 10 (by kernel_rfl))) rfl) _ _ _ rfl _ (eval_at 22 17 _ (by kernel_rfl) (show 22 < 42 by decide) (hI.1 17 (hW 17 (by kernel_rfl)))) _ (run_fF0 _ _) ⟨_, rfl, IFJ.step hI rfl hI.2⟩
      | 19, ho =>
        obtain rfl := Option.some.inj ho
        exact gstep_load rfl (wanted_at 15 10 false _ true rfl (by kernel_rfl) (show 15 < 42 by decide) (hI.1 10 (hW 10 (by kernel_rfl))) rfl) _ _ rfl _ (eval_at 23 18 _ (by kernel_rfl) (show 23 < 42 by decide) (hI.1 18 (hW 18 (by kernel_rfl)))) _ (run_ld w1 _ _ _ (by rw [hI.2]; exact HCD.out)) ⟨_, rfl, IFJ.step hI rfl hI.2⟩
      | 20, ho =>
        obtain rfl := Option.some.inj ho
        exact gstep_move rfl (wanted_at 15 10 false _ true rfl (by kernel_rfl) (show 15 < 42 by decide) (hI.1 10 (hW 10 (by kernel_rfl))) rfl) _ rfl _ (eval_of 0 _ (by kernel_rfl) rfl) ⟨_, rfl, IFJ.step hI rfl hI.2⟩
      | 21, ho =>
        obtain rfl := Option.some.inj ho
        exact gstep_nil rfl (wanted_at 15 10 false _ true rfl (by kernel_rfl) (show 15 < 42 by decide) (hI.1 10 (hW 10 (by kernel_rfl))) rfl) _ rfl _ (eval_at 25 20 _ (by kernel_rfl) (show 25 < 42 by decide) (hI.1 20 (hW 20 (by kernel_rfl)))) ⟨_, rfl, IFJ.step hI rfl hI.2⟩
      | 22, ho =>
        obtain rfl := Option.some.inj ho
        exact gstep_field rfl (wanted_at 15 10 false _ true rfl (by kernel_rfl) (show 15 < 42 by decide) (hI.1 10 (hW 10 (by kernel_rfl))) rfl) _ _ _ rfl _ (eval_at 26 21 _ (by kernel_rfl) (show 26 < 42 by decide) (hI.1 21 (hW 21 (by kernel_rfl)))) _ (run_fN0 _ _) ⟨_, rfl, IFJ.step hI rfl hI.2⟩
      | 23, ho =>
        obtain rfl := Option.some.inj ho
        exact gstep_load rfl (wanted_at 15 10 false _ true rfl (by kernel_rfl) (show 15 < 42 by decide) (hI.1 10 (hW 10 (by kernel_rfl))) rfl) _ _ rfl _ (eval_at 27 22 _ (by kernel_rfl) (show 27 < 42 by decide) (hI.1 22 (hW 22 (by kernel_rfl)))) _ (run_ld w1 _ _ _ (by rw [hI.2]; exact HC0.out)) ⟨_, rfl, IFJ.step hI rfl hI.2⟩
      | 24, ho =>
        obtain rfl := Option.some.inj ho
        exact gstep_bin rfl (wanted_at 15 10 false _ true rfl (by kernel_rfl) (show 15 < 42 by decide) (hI.1 10 (hW 10 (by kernel_rfl))) rfl) _ _ _ _ _ rfl _ _ (eval_at 24 19 _ (by kernel_rfl) (show 24 < 42 by decide) (hI.1 19 (hW 19 (by kernel_rfl)))) (eval_at 28 23 _ (by kernel_rfl) (show 28 < 42 by decide) (hI.1 23 (hW 23 (by kernel_rfl)))) _ (run_gt w1 _ _ _ _) ⟨_, rfl, IFJ.step hI rfl hI.2⟩
      | n + 25, ho => omega
  · intro o ho b x w1 hI hA
    obtain rfl := Option.some.inj ho
    refine gstep_pick rfl (wanted0 rfl) _ _ _ rfl _ (eval_at 15 10 _ (by kernel_rfl) (show 15 < 42 by decide) (hI.1 10 (hA 10 (by decide)))) _ ((if_neg (by decide)).trans (eval_at 29 24 _ (by kernel_rfl) (show 29 < 42 by decide) (hI.1 24 (hA 24 (by decide))))) ?_
    simp only [putAll, Act.put, List.setIfInBounds_toArray, List.set_cons_succ, List.set_cons_zero]
    obtain rfl := hI.2
    clear hI hA
    have hd1 := HD1.out
    have hd2 : now < f.due := of_decide_eq_true hd1
    clear HARM
    go_wp2_with (first | (refine wpList_store_run HST.out rfl rfl rfl rfl ?_))
    exact bodyPost_ret (next_results _ _ w.heap.size _ _ Mg.zero false rfl rfl HM8.out) rfl ⟨rfl, HB8.out⟩
set_option maxHeartbeats 8000000 in
theorem next_some {w : World} {base nb : Nat} {now sent : Int} {v : Value} {L : List Fl} (h : NHp w base nb now sent v L) (n : Nat) (hn : L.length = n) (hn0 : 0 < n) (hd : ¬ now < (L.getD 0 Fl.zero).due) : Calls Try.prog 9 #[.pointer (some ⟨nb, 0, none⟩)] w fun e w' => e = .returned (.tuple #[mgV (L.getD 0 Fl.zero).u (L.getD 0 Fl.zero).v (L.getD 0 Fl.zero).m, .bool true]) ∧ ∃ v' M, M.Perm L.tail ∧ NHp w' base nb now sent v' M ∧ OwnN w v v' ∧ FrN nb v.ownBlock w w' := by
  have Z1 := MgB.new w (.slice none 0 0) (.slice none 0 0) Mg.zero
  obtain ⟨W1, hW1⟩ : ∃ W, W = (w.alloc (.cells (mgA (.slice none 0 0) (.slice none 0 0) Mg.zero) 41)) := ⟨_, rfl⟩
  have bA := (Below.refl w.heap.size w).alloc (Nat.le_refl _) (.cells (mgA (.slice none 0 0) (.slice none 0 0) Mg.zero) 41)
  rw [← hW1] at Z1 bA
  obtain ⟨W8, hst, M8, k8⟩ := zeroM (W := W1.drew) Z1
  have HST := Lib.hid hst
  have HM8 := Lib.hid M8
  have HB8 := Lib.hid (k8 w.heap.size w (Nat.le_refl _) bA.drew)
  unfold mgV at HST
  unfold mgA at hW1
  simp only [Mg.zero] at hW1 HST
  have HWW := Lib.hid hW1
  have HARM : Hid True := Lib.hid trivial
  have HC2 := Lib.hid (show W1.drew.cell? ⟨nb, 2, none⟩ = some v from (bA.cell (p := ⟨nb, 2, none⟩) h.box.lt).trans h.box.c2)
  have HC0 := Lib.hid (show W1.drew.cell? ⟨nb, 0, none⟩ = some (.int .i64 now) from (bA.cell (p := ⟨nb, 0, none⟩) h.box.lt).trans h.box.c0)
  have HV := Lib.hid h.row.sl
  have HLN : Hid (∀ W : World, Calls Try.prog 14 #[v] W fun e w' => e = .returned (.int .i64 (n : Nat)) ∧ w' = W) := Lib.hid fun W => by
    obtain ⟨a, c, rfl, _⟩ := h.row.form
    rw [← hn]
    exact len_any a L.length c W
  have HNB : Hid (((n : Int) == 0) = false) := Lib.hid (by simp; omega)
  obtain ⟨g, hg, hix, hcg⟩ : ∃ g : Nat, (∀ W : World, (Instr.indexAt 26 v (.int .i64 0)).run Try.prog W = .ok (.pointer (some ⟨g, 0, none⟩)) W) ∧ w.cell? ⟨g, 0, none⟩ = some (L.getD 0 Fl.zero).ptr ∧ g < w.heap.size := by
    obtain ⟨a, c, rfl, ha⟩ := h.row.form
    obtain ⟨g, cur, rfl, hr⟩ := ha (by omega)
    exact ⟨g, fun W => run_tix W g L.length c 0 (by omega) h.row.1, hr.cell (by omega), hr.lt⟩
  have HIX := Lib.hid hg
  have hf0 := h.row.2.1 _ (getD_mem (d := Fl.zero) (k := 0) (L := L) (by omega))
  obtain ⟨f, hf⟩ : ∃ f, f = L.getD 0 Fl.zero := ⟨_, rfl⟩
  rw [← hf] at hix hf0 ⊢
  unfold Fl.ptr at hix
  have HCG := Lib.hid (show W1.drew.cell? ⟨g, 0, none⟩ = some (.pointer (some ⟨f.p, 0, none⟩)) from (bA.cell (p := ⟨g, 0, none⟩) hcg).trans hix)
  have HCD := Lib.hid (show W1.drew.cell? ⟨f.p, 0, none⟩ = some (.int .i64 f.due) from (bA.cell (p := ⟨f.p, 0, none⟩) hf0.lt).trans hf0.c0)
  have hb0 : W1.heap.size = w.heap.size + 1 := by rw [hW1]; simp
  have hh1 : NHp W1.drew base nb now sent v L := ⟨h.row.same (fun y hy => bA.block _ (h.row.2.1 y hy).lt) (fun q hq => bA.block _ (h.row.own hq).2.1), h.box.same (bA.block _ h.box.lt), h.heap, h.low⟩
  obtain ⟨k, hk⟩ : ∃ k, n = k + 1 := ⟨n - 1, by omega⟩
  have hpo := hpop_any hh1 k (hn.trans hk)
  rw [← hf] at hpo
  have HPO := Lib.hid hpo
  have HF0 := Lib.hid (show FlB W1.drew f from hf0.same (bA.block _ hf0.lt))
  have HH1 := Lib.hid hh1
  have HZ1 := Lib.hid (show MgB W1.drew w.heap.size (.slice none 0 0) (.slice none 0 0) Mg.zero from Z1)
  have HBA := Lib.hid bA.drew
  have HNL := Lib.hid h.box.lt
  have HOW := Lib.hid (fun q (hq : v.ownBlock = some q) => (h.row.own hq).2.1)
  have HB0 := Lib.hid hb0
  clear hb0 hh1 hpo hk
  rw [← hf] at hd
  have HD1 := Lib.hid (decide_eq_false hd)
  clear Z1 bA hst M8 k8 hW1 h hn hn0 hg hix hcg hf0 hf hd
  go_enter Try.func9, Try.ntmps9
  go_upto_region 1 with fail
  rw [← HWW.out]
  refine wp_region_inv_last 25 (IFJ (FFul nb n g f.p v f.due now) (fun _ _ W => W = W1.drew)) (by kernel_rfl) (by kernel_rfl) (by kernel_rfl) (by kernel_rfl) (by kernel_rfl) ?_ ?_ ?_
  · intro x
    exact ⟨fun j hj => (by cases hj), rfl⟩
  · intro k o hk ho b x w1 hI hbi hW
    match k, ho with
      | 0, ho =>
        obtain rfl := Option.some.inj ho
        exact gstep_move rfl (wanted0 rfl) _ rfl _ (eval_of 0 _ (by kernel_rfl) rfl) ⟨_, rfl, IFJ.step hI rfl hI.2⟩
      | 1, ho =>
        obtain rfl := Option.some.inj ho
        exact gstep_bin rfl (wanted0 rfl) _ _ _ _ _ rfl _ _ (eval_at 5 0 _ (by kernel_rfl) (show 5 < 42 by decide) (hI.1 0 (hW 0 (by kernel_rfl)))) rfl _ (run_eqp w1 _ _ _) ⟨_, rfl, IFJ.step hI rfl hI.2⟩
      | 2, ho =>
        obtain rfl := Option.some.inj ho
        exact gstep_move rfl (wanted0 rfl) _ rfl _ (eval_at 6 1 _ (by kernel_rfl) (show 6 < 42 by decide) (hI.1 1 (hW 1 (by kernel_rfl)))) ⟨_, rfl, IFJ.step hI rfl hI.2⟩
      | 3, ho =>
        obtain rfl := Option.some.inj ho
        exact gstep_move rfl (wanted_at 7 2 false _ true rfl (by kernel_rfl) (show 7 < 42 by decide) (hI.1 2 (hW 2 (by kernel_rfl))) rfl) _ rfl _ (eval_of 0 _ (by kernel_rfl) rfl) ⟨_, rfl, IFJ.step hI rfl hI.2⟩
      | 4, ho =>
        obtain rfl := Option.some.inj ho
        exact gstep_nil rfl (wanted_at 7 2 false _ true rfl (by kernel_rfl) (show 7 < 42 by decide) (hI.1 2 (hW 2 (by kernel_rfl))) rfl) _ rfl _ (eval_at 8 3 _ (by kernel_rfl) (show 8 < 42 by decide) (hI.1 3 (hW 3 (by kernel_rfl)))) ⟨_, rfl, IFJ.step hI rfl hI.2⟩
      | 5, ho =>
        obtain rfl := Option.some.inj ho
        exact gstep_field rfl (wanted_at 7 2 false _ true rfl (by kernel_rfl) (show 7 < 42 by decide) (hI.1 2 (hW 2 (by kernel_rfl))) rfl) _ _ _ rfl _ (eval_at 9 4 _ (by kernel_rfl) (show 9 < 42 by decide) (hI.1 4 (hW 4 (by kernel_rfl)))) _ (run_fN2 _ _) ⟨_, rfl, IFJ.step hI rfl hI.2⟩
      | 6, ho =>
        obtain rfl := Option.some.inj ho
        exact gstep_load rfl (wanted_at 7 2 false _ true rfl (by kernel_rfl) (show 7 < 42 by decide) (hI.1 2 (hW 2 (by kernel_rfl))) rfl) _ _ rfl _ (eval_at 10 5 _ (by kernel_rfl) (show 10 < 42 by decide) (hI.1 5 (hW 5 (by kernel_rfl)))) _ (run_lt w1 nb v (by rw [hI.2]; exact HC2.out) HV.out) ⟨_, rfl, IFJ.step hI rfl hI.2⟩
      | 7, ho =>
        obtain rfl := Option.some.inj ho
        refine gstep_call rfl (wanted_at 7 2 false _ true rfl (by kernel_rfl) (show 7 < 42 by decide) (hI.1 2 (hW 2 (by kernel_rfl))) rfl) _ _ _ rfl _ (eval_at 11 6 _ (by kernel_rfl) (show 11 < 42 by decide) (hI.1 6 (hW 6 (by kernel_rfl)))) (call_len w1 _) ?_
        obtain ⟨a1, n1, c1, hv1⟩ := HV.out
        refine (HLN.out w1).mono ?_
        rintro e w2 ⟨rfl, rfl⟩
        exact ⟨_, rfl, _, rfl, IFJ.step hI rfl hI.2⟩
      | 8, ho =>
        obtain rfl := Option.some.inj ho
        exact gstep_bin rfl (wanted_at 7 2 false _ true rfl (by kernel_rfl) (show 7 < 42 by decide) (hI.1 2 (hW 2 (by kernel_rfl))) rfl) _ _ _ _ _ rfl _ _ (eval_at 12 7 _ (by kernel_rfl) (show 12 < 42 by decide) (hI.1 7 (hW 7 (by kernel_rfl)))) rfl _ (run_eq0 w1 _ _ HNB.out _ _) ⟨_, rfl, IFJ.step hI rfl hI.2⟩
      | 9, ho =>
        obtain rfl := Option.some.inj ho
        exact gstep_pick rfl (wanted0 rfl) _ _ _ rfl _ (eval_at 7 2 _ (by kernel_rfl) (show 7 < 42 by decide) (hI.1 2 (hW 2 (by kernel_rfl)))) _ (by rw [if_neg (by decide)]; exact (eval_at 13 8 _ (by kernel_rfl) (show 13 < 42 by decide) (hI.1 8 (hW 8 (by kernel_rfl))))) ⟨_, rfl, IFJ.step hI rfl hI.2⟩
      | 10, ho =>
        obtain rfl := Option.some.inj ho
        exact gstep_move rfl (wanted0 rfl) _ rfl _ (eval_at 14 9 _ (by kernel_rfl) (show 14 < 42 by decide) (hI.1 9 (hW 9 (by kernel_rfl)))) ⟨_, rfl, IFJ.step hI rfl hI.2⟩
      | 11, ho =>
        obtain rfl := Option.some.inj ho
        exact gstep_move rfl (wanted_at 15 10 false _ true rfl (by kernel_rfl) (show 15 < 42 by decide) (hI.1 10 (hW 10 (by kernel_rfl))) rfl) _ rfl _ (eval_of 0 _ (by kernel_rfl) rfl) ⟨_, rfl, IFJ.step hI rfl hI.2⟩
      | 12, ho =>
        obtain rfl := Option.some.inj ho
        exact gstep_nil rfl (wanted_at 15 10 false _ true rfl (by kernel_rfl) (show 15 < 42 by decide) (hI.1 10 (hW 10 (by kernel_rfl))) rfl) _ rfl _ (eval_at 16 11 _ (by kernel_rfl) (show 16 < 42 by decide) (hI.1 11 (hW 11 (by kernel_rfl)))) ⟨_, rfl, IFJ.step hI rfl hI.2⟩
      | 13, ho =>
        obtain rfl := Option.some.inj ho
        exact gstep_field rfl (wanted_at 15 10 false _ true rfl (by kernel_rfl) (show 15 < 42 by decide) (hI.1 10 (hW 10 (by kernel_rfl))) rfl) _ _ _ rfl _ (eval_at 17 12 _ (by kernel_rfl) (show 17 < 42 by decide) (hI.1 12 (hW 12 (by kernel_rfl)))) _ (run_fN2 _ _) ⟨_, rfl, IFJ.step hI rfl hI.2⟩
      | 14, ho =>
        obtain rfl := Option.some.inj ho
        exact gstep_load rfl (wanted_at 15 10 false _ true rfl (by kernel_rfl) (show 15 < 42 by decide) (hI.1 10 (hW 10 (by kernel_rfl))) rfl) _ _ rfl _ (eval_at 18 13 _ (by kernel_rfl) (show 18 < 42 by decide) (hI.1 13 (hW 13 (by kernel_rfl)))) _ (run_lt w1 nb v (by rw [hI.2]; exact HC2.out) HV.out) ⟨_, rfl, IFJ.step hI rfl hI.2⟩
      | 15, ho =>
        obtain rfl := Option.some.inj ho
        exact gstep_index rfl (wanted_at 15 10 false _ true rfl (by kernel_rfl) (show 15 < 42 by decide) (hI.1 10 (hW 10 (by kernel_rfl))) rfl) _ _ _ rfl _ _ (eval_at 19 14 _ (by kernel_rfl) (show 19 < 42 by decide) (hI.1 14 (hW 14 (by kernel_rfl)))) rfl _ (HIX.out w1) ⟨_, rfl, IFJ.step hI rfl hI.2⟩
      | 16, ho =>
        obtain rfl := Option.some.inj ho
        exact gstep_load rfl (wanted_at 15 10 false _ true rfl (by kernel_rfl) (show 15 < 42 by decide) (hI.1 10 (hW 10 (by kernel_rfl))) rfl) _ _ rfl _ (eval_at 20 15 _ (by kernel_rfl) (show 20 < 42 by decide) (hI.1 15 (hW 15 (by kernel_rfl)))) _ (run_lp w1 _ _ _ (by rw [hI.2]; exact HCG.out)) ⟨_, rfl, IFJ.step hI rfl hI.2⟩
      | 17, ho =>
        obtain rfl := Option.some.inj ho
        exact gstep_nil rfl (wanted_at 15 10 false _ true rfl (by kernel_rfl) (show 15 < 42 by decide) (hI.1 10 (hW 10 (by kernel_rfl))) rfl) _ rfl _ (eval_at 21 16 _ (by kernel_rfl) (show 21 < 42 by decide) (hI.1 16 (hW 16 (by kernel_rfl)))) ⟨_, rfl, IFJ.step hI rfl hI.2⟩
      | 18, ho =>
        obtain rfl := Option.some.inj ho
        exact gstep_field rfl (wanted_at 15 10 false _ true rfl (by kernel_rfl) (show 15 < 42 by decide) (hI.1 10 (hW 10 (by kernel_rfl))) rfl) _ _ _ rfl _ (eval_at 22 17 _ (by kernel_rfl) (show 22 < 42 by decide) (hI.1 17 (hW 17 (by kernel_rfl)))) _ (run_fF0 _ _) ⟨_, rfl, IFJ.step hI rfl hI.2⟩
      | 19, ho =>
        obtain rfl := Option.some.inj ho
        exact gstep_load rfl (wanted_at 15 10 false _ true rfl (by kernel_rfl) (show 15 < 42 by decide) (hI.1 10 (hW 10 (by kernel_rfl))) rfl) _ _ rfl _ (eval_at 23 18 _ (by kernel_rfl) (show 23 < 42 by decide) (hI.1 18 (hW 18 (by kernel_rfl)))) _ (run_ld w1 _ _ _ (by rw [hI.2]; exact HCD.out)) ⟨_, rfl, IFJ.step hI rfl hI.2⟩
      | 20, ho =>
        obtain rfl := Option.some.inj ho
        exact gstep_move rfl (wanted_at 15 10 false _ true rfl (by kernel_rfl) (show 15 < 42 by decide) (hI.1 10 (hW 10 (by kernel_rfl))) rfl) _ rfl _ (eval_of 0 _ (by kernel_rfl) rfl) ⟨_, rfl, IFJ.step hI rfl hI.2⟩
      | 21, ho =>
        obtain rfl := Option.some.inj ho
        exact gstep_nil rfl (wanted_at 15 10 false _ true rfl (by kernel_rfl) (show 15 < 42 by decide) (hI.1 10 (hW 10 (by kernel_rfl))) rfl) _ rfl _ (eval_at 25 20 _ (by kernel_rfl) (show 25 < 42 by decide) (hI.1 20 (hW 20 (by kernel_rfl)))) ⟨_, rfl, IFJ.step hI rfl hI.2⟩
      | 22, ho =>
        obtain rfl := Option.some.inj ho
        exact gstep_field rfl (wanted_at 15 10 false _ true rfl (by kernel_rfl) (show 15 < 42 by decide) (hI.1 10 (hW 10 (by kernel_rfl))) rfl) _ _ _ rfl _ (eval_at 26 21 _ (by kernel_rfl) (show 26 < 42 by decide) (hI.1 21 (hW 21 (by kernel_rfl)))) _ (run_fN0 _ _) ⟨_, rfl, IFJ.step hI rfl hI.2⟩
      | 23, ho =>
        obtain rfl := Option.some.inj ho
        exact gstep_load rfl (wanted_at 15 10 false _ true rfl (by kernel_rfl) (show 15 < 42 by decide) (hI.1 10 (hW 10 (by kernel_rfl))) rfl) _ _ rfl _ (eval_at 27 22 _ (by kernel_rfl) (show 27 < 42 by decide) (hI.1 22 (hW 22 (by kernel_rfl)))) _ (run_ld w1 _ _ _ (by rw [hI.2]; exact HC0.out)) ⟨_, rfl, IFJ.step hI rfl hI.2⟩
      | 24, ho =>
        obtain rfl := Option.some.inj ho
        exact gstep_bin rfl (wanted_at 15 10 false _ true rfl (by kernel_rfl) (show 15 < 42 by decide) (hI.1 10 (hW 10 (by kernel_rfl))) rfl) _ _ _ _ _ rfl _ _ (eval_at 24 19 _ (by kernel_rfl) (show 24 < 42 by decide) (hI.1 19 (hW 19 (by kernel_rfl)))) (eval_at 28 23 _ (by kernel_rfl) (show 28 < 42 by decide) (hI.1 23 (hW 23 (by kernel_rfl)))) _ (run_gt w1 _ _ _ _) ⟨_, rfl, IFJ.step hI rfl hI.2⟩
      | n + 25, ho => omega
  · intro o ho b x w1 hI hA
    obtain rfl := Option.some.inj ho
    refine gstep_pick rfl (wanted0 rfl) _ _ _ rfl _ (eval_at 15 10 _ (by kernel_rfl) (show 15 < 42 by decide) (hI.1 10 (hA 10 (by decide)))) _ ((if_neg (by decide)).trans (eval_at 29 24 _ (by kernel_rfl) (show 29 < 42 by decide) (hI.1 24 (hA 24 (by decide))))) ?_
    simp only [putAll, Act.put, List.setIfInBounds_toArray, List.set_cons_succ, List.set_cons_zero]
    obtain rfl := hI.2
    clear hI hA
    have hd1 := HD1.out
    have hd2 : ¬ now < f.due := of_decide_eq_false hd1
    clear HARM HST HM8 HB8
    go_wp2_with fail
    refine HPO.out.mono ?_
    rintro e w4 ⟨rfl, v4, M, hp4, hh4, o4, f4⟩
    have hne : w.heap.size ≠ nb := fun e => by have := HNL.out; omega
    have hnr : some w.heap.size ≠ v.ownBlock := fun e => by have := HOW.out _ e.symm; omega
    have F4 : FlB w4 f := HF0.out.same (f4.block f.p HF0.out.lt (Ne.symm (HH1.out.box.ne_fl HF0.out)) (fun e => by
      obtain ⟨_, _, cs, hcs⟩ := HH1.out.row.own e.symm
      exact HF0.out.ne_row hcs rfl))
    have Z4 : MgB w4 w.heap.size (.slice none 0 0) (.slice none 0 0) Mg.zero := (f4.block w.heap.size HZ1.out.lt hne hnr).trans HZ1.out
    obtain ⟨W9, hst9, M9, k9, q9⟩ := storeM (a := f.ua) (n := f.un) (c := f.uc) (sa := f.va) (k := f.vn) (sc := f.vc) Z4 f.m
    have HLD := Lib.hid (run_loadF F4)
    have HST := Lib.hid hst9
    have HTA := Lib.hid (fun W => run_ta W f)
    have HM9 := Lib.hid M9
    have HFR : Hid (FrN nb v.ownBlock w W9) := Lib.hid ((FrN.of_below HBA.out).trans (r' := v.ownBlock) f4 (.inl rfl) |> fun q => ⟨(k9 0 w4 (Nat.zero_le _) (Below.refl _ _)).os.trans q.os, (k9 0 w4 (Nat.zero_le _) (Below.refl _ _)).tape.trans q.tape, (k9 0 w4 (Nat.zero_le _) (Below.refl _ _)).output.trans q.output, Nat.le_trans q.size (k9 0 w4 (Nat.zero_le _) (Below.refl _ _)).size, fun b hb h1 h2 => (q9 b (by omega)).trans (q.block b hb h1 h2)⟩)
    have HHE : Hid (∃ v' M, M.Perm L.tail ∧ NHp W9 base nb now sent v' M ∧ OwnN w v v') := Lib.hid (by
      have hzt := HZ1.out
      refine ⟨v4, M, hp4, ⟨hh4.row.same (fun y hy => q9 _ fun e => ?_) (fun g hg => q9 _ fun e => ?_), hh4.box.same (q9 _ (Ne.symm hne)), hh4.heap, hh4.low⟩, o4.imp id fun ⟨q, h1, h2⟩ => ⟨q, h1, by have := HB0.out; have e : W1.drew.heap.size = W1.heap.size := rfl; omega⟩⟩
      · have h1 := hh4.row.2.1 y hy
        unfold FlB at h1
        unfold MgB at Z4
        rw [e, Z4] at h1
        injection h1 with h1
        injection h1 with _ h1
        cases h1
      · obtain ⟨_, _, cs, hcs⟩ := hh4.row.own hg
        unfold MgB at Z4
        rw [e, Z4] at hcs
        injection hcs with h1
        injection h1 with _ h1
        cases h1)
    unfold mgV Fl.u Fl.v at HLD
    unfold mgV at HST
    clear HPO hp4 hh4 o4 f4 F4 Z4 hst9 M9 k9 q9 hne hnr
    have hta := fun W => run_ta W f
    unfold Fl.ptr at hta ⊢
    go_wp2_with (first | (refine wpList_store_run HST.out rfl rfl rfl rfl ?_) | (refine wpList_load_run HLD.out rfl rfl rfl ?_))
    obtain ⟨v5, M5, h51, h52, h53⟩ := HHE.out
    exact bodyPost_ret (next_results _ _ w.heap.size _ _ f.m true rfl rfl HM9.out) rfl ⟨rfl, v5, M5, h51, h52, h53, HFR.out⟩
end Go.Proofs.Ytfijidaohlnphaa
