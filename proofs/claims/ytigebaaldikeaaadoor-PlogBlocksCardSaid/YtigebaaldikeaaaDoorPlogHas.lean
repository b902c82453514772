/- Is there an entry, has and hasOrNext. No conditions beyond those in each statement. plog's small functions: First, Last, Room, reach, block, isEntry, valid, recOf, markOf. No conditions beyond those in each statement. plog's readsAs and read: what the blocks of an entry and of its mark tell. No conditions beyond those in each statement. -/
import Derived.Test.YtigebaaldikeaaaDoorPlogMem
import Derived.IntWalk
namespace Go.Proofs.YtigebaaldikeaaaDoor
section
open Go.RowKit
set_option linter.unusedVariables false
set_option maxRecDepth 100000

def FNhas (b : Nat) (i f c : Int) (q : Bool) : Nat → Value → World → Prop
  | 0, v, _ => v = .pointer none
  | 1, v, _ => v = .bool false
  | 2, v, _ => v = .bool false
  | 3, v, _ => v = undef
  | 4, v, _ => v = undef
  | 5, v, _ => v = undef
  | 6, v, _ => v = undef
  | 7, v, _ => v = undef
  | 8, v, _ => v = undef
  | 9, v, _ => v = .bool false
  | 10, v, _ => v = .bool false
  | 11, v, _ => v = undef
  | 12, v, _ => v = undef
  | 13, v, _ => v = undef
  | 14, v, _ => v = undef
  | 15, v, _ => v = undef
  | 16, v, _ => v = undef
  | 17, v, _ => v = undef
  | 18, v, _ => v = undef
  | 19, v, _ => v = undef
  | 20, v, _ => v = undef
  | 21, v, _ => v = undef
  | 22, v, _ => v = .bool false
  | 23, v, _ => v = .bool false
  | _, _, _ => True
theorem FNhas_keep {b : Nat} {i f c : Int} {q : Bool} {v : Value} {w w' : World} : ∀ j : Nat, FNhas b i f c q j v w → FNhas b i f c q j v w'
  | 0, h => h
  | 1, h => h
  | 2, h => h
  | 3, h => h
  | 4, h => h
  | 5, h => h
  | 6, h => h
  | 7, h => h
  | 8, h => h
  | 9, h => h
  | 10, h => h
  | 11, h => h
  | 12, h => h
  | 13, h => h
  | 14, h => h
  | 15, h => h
  | 16, h => h
  | 17, h => h
  | 18, h => h
  | 19, h => h
  | 20, h => h
  | 21, h => h
  | 22, h => h
  | 23, h => h
  | _ + 24, _ => trivial

def FLhas (b : Nat) (i f c : Int) (q : Bool) : Nat → Value → World → Prop
  | 0, v, _ => v = .pointer (some ⟨b, 0, none⟩)
  | 1, v, _ => v = .bool true
  | 2, v, _ => v = .bool true
  | 3, v, _ => v = .int .i64 i
  | 4, v, _ => v = .pointer (some ⟨b, 0, none⟩)
  | 5, v, _ => v = .pointer (some ⟨b, 0, none⟩)
  | 6, v, _ => v = .pointer (some ⟨b, 3, none⟩)
  | 7, v, _ => v = .int .i64 f
  | 8, v, _ => v = .bool false
  | 9, v, _ => v = .bool false
  | 10, v, _ => v = .bool false
  | 11, v, _ => v = undef
  | 12, v, _ => v = undef
  | 13, v, _ => v = undef
  | 14, v, _ => v = undef
  | 15, v, _ => v = undef
  | 16, v, _ => v = undef
  | 17, v, _ => v = undef
  | 18, v, _ => v = undef
  | 19, v, _ => v = undef
  | 20, v, _ => v = undef
  | 21, v, _ => v = undef
  | 22, v, _ => v = .bool false
  | 23, v, _ => v = .bool false
  | _, _, _ => True
theorem FLhas_keep {b : Nat} {i f c : Int} {q : Bool} {v : Value} {w w' : World} : ∀ j : Nat, FLhas b i f c q j v w → FLhas b i f c q j v w'
  | 0, h => h
  | 1, h => h
  | 2, h => h
  | 3, h => h
  | 4, h => h
  | 5, h => h
  | 6, h => h
  | 7, h => h
  | 8, h => h
  | 9, h => h
  | 10, h => h
  | 11, h => h
  | 12, h => h
  | 13, h => h
  | 14, h => h
  | 15, h => h
  | 16, h => h
  | 17, h => h
  | 18, h => h
  | 19, h => h
  | 20, h => h
  | 21, h => h
  | 22, h => h
  | 23, h => h
  | _ + 24, _ => trivial

def FGhas (b : Nat) (i f c : Int) (q : Bool) : Nat → Value → World → Prop
  | 0, v, _ => v = .pointer (some ⟨b, 0, none⟩)
  | 1, v, _ => v = .bool true
  | 2, v, _ => v = .bool true
  | 3, v, _ => v = .int .i64 i
  | 4, v, _ => v = .pointer (some ⟨b, 0, none⟩)
  | 5, v, _ => v = .pointer (some ⟨b, 0, none⟩)
  | 6, v, _ => v = .pointer (some ⟨b, 3, none⟩)
  | 7, v, _ => v = .int .i64 f
  | 8, v, _ => v = .bool true
  | 9, v, _ => v = .bool true
  | 10, v, _ => v = .bool true
  | 11, v, _ => v = .int .i64 i
  | 12, v, _ => v = .pointer (some ⟨b, 0, none⟩)
  | 13, v, _ => v = .pointer (some ⟨b, 0, none⟩)
  | 14, v, _ => v = .pointer (some ⟨b, 3, none⟩)
  | 15, v, _ => v = .int .i64 f
  | 16, v, _ => v = .int .i64 (i - f)
  | 17, v, _ => v = .pointer (some ⟨b, 0, none⟩)
  | 18, v, _ => v = .pointer (some ⟨b, 0, none⟩)
  | 19, v, _ => v = .pointer (some ⟨b, 4, none⟩)
  | 20, v, _ => v = .int .i64 c
  | 21, v, _ => v = .bool q
  | 22, v, _ => v = .bool q
  | 23, v, _ => v = .bool q
  | _, _, _ => True
theorem FGhas_keep {b : Nat} {i f c : Int} {q : Bool} {v : Value} {w w' : World} : ∀ j : Nat, FGhas b i f c q j v w → FGhas b i f c q j v w'
  | 0, h => h
  | 1, h => h
  | 2, h => h
  | 3, h => h
  | 4, h => h
  | 5, h => h
  | 6, h => h
  | 7, h => h
  | 8, h => h
  | 9, h => h
  | 10, h => h
  | 11, h => h
  | 12, h => h
  | 13, h => h
  | 14, h => h
  | 15, h => h
  | 16, h => h
  | 17, h => h
  | 18, h => h
  | 19, h => h
  | 20, h => h
  | 21, h => h
  | 22, h => h
  | 23, h => h
  | _ + 24, _ => trivial

set_option maxHeartbeats 4000000 in
theorem phas_nil (i : Int) (w : World) : Calls Tryd.prog 42 #[.pointer none, .int .i64 i] w fun e w' => e = .returned (.bool false) ∧ Below w.heap.size w w' := by
  have q : Bool := false
  have b : Nat := 0
  have L : Lg := ⟨0, 0, 0, 0⟩
  go_enter Tryd.func42, Tryd.ntmps42
  go_wp2_with fail
  refine wp_region_steps (FNhas b i L.first L.count q) (fun w w' => w = w') (by kernel_rfl) (by kernel_rfl) (by kernel_rfl) rfl ?_ (fun u v w h1 h2 => h1.trans h2) ?_ ?_
  · intro j v w w' _ h1 h2
    exact FNhas_keep (b := b) (i := i) (f := L.first) (c := L.count) (q := q) j h1
  · intro j o ho x w1 hR hF
    match j, ho with
    | 0, ho =>
      obtain rfl := Option.some.inj ho
      exact gstep_move rfl (wanted0 rfl) _ rfl _ (eval_of 0 _ (by kernel_rfl) rfl) ⟨_, rfl, rfl, rfl⟩
    | 1, ho =>
      obtain rfl := Option.some.inj ho
      exact gstep_bin rfl (wanted0 rfl) _ _ _ _ _ rfl _ _ (eval_at 5 0 _ (by kernel_rfl) (show 5 < 28 by decide) (hF 0 (by kernel_rfl))) rfl _ (run_neqN w1 _ _) ⟨_, rfl, rfl, rfl⟩
    | 2, ho =>
      obtain rfl := Option.some.inj ho
      exact gstep_move rfl (wanted0 rfl) _ rfl _ (eval_at 6 1 _ (by kernel_rfl) (show 6 < 28 by decide) (hF 1 (by kernel_rfl))) ⟨_, rfl, rfl, rfl⟩
    | 3, ho =>
      obtain rfl := Option.some.inj ho
      exact gstep_skip rfl (wanted_at 7 2 true _ false rfl (by kernel_rfl) (show 7 < 28 by decide) (hF 2 (by kernel_rfl)) rfl) ⟨_, rfl, rfl, rfl⟩
    | 4, ho =>
      obtain rfl := Option.some.inj ho
      exact gstep_skip rfl (wanted_at 7 2 true _ false rfl (by kernel_rfl) (show 7 < 28 by decide) (hF 2 (by kernel_rfl)) rfl) ⟨_, rfl, rfl, rfl⟩
    | 5, ho =>
      obtain rfl := Option.some.inj ho
      exact gstep_skip rfl (wanted_at 7 2 true _ false rfl (by kernel_rfl) (show 7 < 28 by decide) (hF 2 (by kernel_rfl)) rfl) ⟨_, rfl, rfl, rfl⟩
    | 6, ho =>
      obtain rfl := Option.some.inj ho
      exact gstep_skip rfl (wanted_at 7 2 true _ false rfl (by kernel_rfl) (show 7 < 28 by decide) (hF 2 (by kernel_rfl)) rfl) ⟨_, rfl, rfl, rfl⟩
    | 7, ho =>
      obtain rfl := Option.some.inj ho
      exact gstep_skip rfl (wanted_at 7 2 true _ false rfl (by kernel_rfl) (show 7 < 28 by decide) (hF 2 (by kernel_rfl)) rfl) ⟨_, rfl, rfl, rfl⟩
    | 8, ho =>
      obtain rfl := Option.some.inj ho
      exact gstep_skip rfl (wanted_at 7 2 true _ false rfl (by kernel_rfl) (show 7 < 28 by decide) (hF 2 (by kernel_rfl)) rfl) ⟨_, rfl, rfl, rfl⟩
    | 9, ho =>
      obtain rfl := Option.some.inj ho
      exact gstep_pick rfl (wanted0 rfl) _ _ _ rfl false (eval_at 7 2 _ (by kernel_rfl) (show 7 < 28 by decide) (hF 2 (by kernel_rfl))) _ (by rw [if_neg (by decide)]; exact rfl) ⟨_, rfl, rfl, rfl⟩
    | 10, ho =>
      obtain rfl := Option.some.inj ho
      exact gstep_move rfl (wanted0 rfl) _ rfl _ (eval_at 14 9 _ (by kernel_rfl) (show 14 < 28 by decide) (hF 9 (by kernel_rfl))) ⟨_, rfl, rfl, rfl⟩
    | 11, ho =>
      obtain rfl := Option.some.inj ho
      exact gstep_skip rfl (wanted_at 15 10 true _ false rfl (by kernel_rfl) (show 15 < 28 by decide) (hF 10 (by kernel_rfl)) rfl) ⟨_, rfl, rfl, rfl⟩
    | 12, ho =>
      obtain rfl := Option.some.inj ho
      exact gstep_skip rfl (wanted_at 15 10 true _ false rfl (by kernel_rfl) (show 15 < 28 by decide) (hF 10 (by kernel_rfl)) rfl) ⟨_, rfl, rfl, rfl⟩
    | 13, ho =>
      obtain rfl := Option.some.inj ho
      exact gstep_skip rfl (wanted_at 15 10 true _ false rfl (by kernel_rfl) (show 15 < 28 by decide) (hF 10 (by kernel_rfl)) rfl) ⟨_, rfl, rfl, rfl⟩
    | 14, ho =>
      obtain rfl := Option.some.inj ho
      exact gstep_skip rfl (wanted_at 15 10 true _ false rfl (by kernel_rfl) (show 15 < 28 by decide) (hF 10 (by kernel_rfl)) rfl) ⟨_, rfl, rfl, rfl⟩
    | 15, ho =>
      obtain rfl := Option.some.inj ho
      exact gstep_skip rfl (wanted_at 15 10 true _ false rfl (by kernel_rfl) (show 15 < 28 by decide) (hF 10 (by kernel_rfl)) rfl) ⟨_, rfl, rfl, rfl⟩
    | 16, ho =>
      obtain rfl := Option.some.inj ho
      exact gstep_skip rfl (wanted_at 15 10 true _ false rfl (by kernel_rfl) (show 15 < 28 by decide) (hF 10 (by kernel_rfl)) rfl) ⟨_, rfl, rfl, rfl⟩
    | 17, ho =>
      obtain rfl := Option.some.inj ho
      exact gstep_skip rfl (wanted_at 15 10 true _ false rfl (by kernel_rfl) (show 15 < 28 by decide) (hF 10 (by kernel_rfl)) rfl) ⟨_, rfl, rfl, rfl⟩
    | 18, ho =>
      obtain rfl := Option.some.inj ho
      exact gstep_skip rfl (wanted_at 15 10 true _ false rfl (by kernel_rfl) (show 15 < 28 by decide) (hF 10 (by kernel_rfl)) rfl) ⟨_, rfl, rfl, rfl⟩
    | 19, ho =>
      obtain rfl := Option.some.inj ho
      exact gstep_skip rfl (wanted_at 15 10 true _ false rfl (by kernel_rfl) (show 15 < 28 by decide) (hF 10 (by kernel_rfl)) rfl) ⟨_, rfl, rfl, rfl⟩
    | 20, ho =>
      obtain rfl := Option.some.inj ho
      exact gstep_skip rfl (wanted_at 15 10 true _ false rfl (by kernel_rfl) (show 15 < 28 by decide) (hF 10 (by kernel_rfl)) rfl) ⟨_, rfl, rfl, rfl⟩
    | 21, ho =>
      obtain rfl := Option.some.inj ho
      exact gstep_skip rfl (wanted_at 15 10 true _ false rfl (by kernel_rfl) (show 15 < 28 by decide) (hF 10 (by kernel_rfl)) rfl) ⟨_, rfl, rfl, rfl⟩
    | 22, ho =>
      obtain rfl := Option.some.inj ho
      exact gstep_pick rfl (wanted0 rfl) _ _ _ rfl false (eval_at 15 10 _ (by kernel_rfl) (show 15 < 28 by decide) (hF 10 (by kernel_rfl))) _ (by rw [if_neg (by decide)]; exact rfl) ⟨_, rfl, rfl, rfl⟩
    | 23, ho =>
      obtain rfl := Option.some.inj ho
      exact gstep_assign rfl (wanted0 rfl) _ rfl _ (eval_at 27 22 _ (by kernel_rfl) (show 27 < 28 by decide) (hF 22 (by kernel_rfl))) ⟨_, rfl, rfl, rfl⟩
    | n + 24, ho => simp at ho
  · intro x w6 hR hF
    have hl : x 23 = .bool false := hF 23 (by decide)
    simp only [putAll, hl, Act.put, List.setIfInBounds_toArray, List.set_cons_succ, List.set_cons_zero]
    go_wp2_with fail
    go_ret
    exact ⟨rfl, by rw [← hR]; exact (Below.refl _ w).drew⟩

set_option maxHeartbeats 4000000 in
theorem phas_any {w : World} {b B bt bd : Nat} {L : Lg} (i : Int) (h : LogB w b B bt bd L) (hf : 0 ≤ L.first) (hi : i ≤ 9223372036854775807) :
    Calls Tryd.prog 42 #[.pointer (some ⟨b, 0, none⟩), .int .i64 i] w fun e w' => e = .returned (.bool (L.has i)) ∧ Below w.heap.size w w' := by
  obtain ⟨⟨_, _, _, c3', c4', _, _⟩, _⟩ := h.cells
  have c3 : w.drew.cell? ⟨b, 3, none⟩ = some (.int .i64 L.first) := c3'
  have c4 : w.drew.cell? ⟨b, 4, none⟩ = some (.int .i64 L.count) := c4'
  clear c3' c4'
  by_cases hg : L.first ≤ i
  · have hge : decide (L.first ≤ i) = true := by simpa using hg
    have hsub : IntKind.i64.wrap (i - L.first) = i - L.first := IntWalk.i64_in _ (by omega)
    obtain ⟨q, hq⟩ : ∃ q, decide (i - L.first < L.count) = q := ⟨_, rfl⟩
    have HV : Hid (L.has i = q) := by
      show L.has i = q
      rw [← hq]
      simp [Lg.has, hg]
    clear hg
    go_enter Tryd.func42, Tryd.ntmps42
    go_wp2_with fail
    refine wp_region_steps (FGhas b i L.first L.count q) (fun w w' => w = w') (by kernel_rfl) (by kernel_rfl) (by kernel_rfl) rfl ?_ (fun u v w h1 h2 => h1.trans h2) ?_ ?_
    · intro j v w w' _ h1 h2
      exact FGhas_keep (b := b) (i := i) (f := L.first) (c := L.count) (q := q) j h1
    · intro j o ho x w1 hR hF
      match j, ho with
      | 0, ho =>
        obtain rfl := Option.some.inj ho
        exact gstep_move rfl (wanted0 rfl) _ rfl _ (eval_of 0 _ (by kernel_rfl) rfl) ⟨_, rfl, rfl, rfl⟩
      | 1, ho =>
        obtain rfl := Option.some.inj ho
        exact gstep_bin rfl (wanted0 rfl) _ _ _ _ _ rfl _ _ (eval_at 5 0 _ (by kernel_rfl) (show 5 < 28 by decide) (hF 0 (by kernel_rfl))) rfl _ (run_neqP w1 b _ _) ⟨_, rfl, rfl, rfl⟩
      | 2, ho =>
        obtain rfl := Option.some.inj ho
        exact gstep_move rfl (wanted0 rfl) _ rfl _ (eval_at 6 1 _ (by kernel_rfl) (show 6 < 28 by decide) (hF 1 (by kernel_rfl))) ⟨_, rfl, rfl, rfl⟩
      | 3, ho =>
        obtain rfl := Option.some.inj ho
        exact gstep_move rfl (wanted_at 7 2 true _ true rfl (by kernel_rfl) (show 7 < 28 by decide) (hF 2 (by kernel_rfl)) rfl) _ rfl _ (eval_of 1 _ (by kernel_rfl) rfl) ⟨_, rfl, rfl, rfl⟩
      | 4, ho =>
        obtain rfl := Option.some.inj ho
        exact gstep_move rfl (wanted_at 7 2 true _ true rfl (by kernel_rfl) (show 7 < 28 by decide) (hF 2 (by kernel_rfl)) rfl) _ rfl _ (eval_of 0 _ (by kernel_rfl) rfl) ⟨_, rfl, rfl, rfl⟩
      | 5, ho =>
        obtain rfl := Option.some.inj ho
        exact gstep_nil rfl (wanted_at 7 2 true _ true rfl (by kernel_rfl) (show 7 < 28 by decide) (hF 2 (by kernel_rfl)) rfl) _ rfl _ (eval_at 9 4 _ (by kernel_rfl) (show 9 < 28 by decide) (hF 4 (by kernel_rfl))) ⟨_, rfl, rfl, rfl⟩
      | 6, ho =>
        obtain rfl := Option.some.inj ho
        exact gstep_field rfl (wanted_at 7 2 true _ true rfl (by kernel_rfl) (show 7 < 28 by decide) (hF 2 (by kernel_rfl)) rfl) _ _ _ rfl _ (eval_at 10 5 _ (by kernel_rfl) (show 10 < 28 by decide) (hF 5 (by kernel_rfl))) _ (run_lgf3 w1 _) ⟨_, rfl, rfl, rfl⟩
      | 7, ho =>
        obtain rfl := Option.some.inj ho
        exact gstep_load rfl (wanted_at 7 2 true _ true rfl (by kernel_rfl) (show 7 < 28 by decide) (hF 2 (by kernel_rfl)) rfl) _ _ rfl _ (eval_at 11 6 _ (by kernel_rfl) (show 11 < 28 by decide) (hF 6 (by kernel_rfl))) _ (run_loadI w1 _ _ (by rw [← hR]; exact c3)) ⟨_, rfl, rfl, rfl⟩
      | 8, ho =>
        obtain rfl := Option.some.inj ho
        exact gstep_bin rfl (wanted_at 7 2 true _ true rfl (by kernel_rfl) (show 7 < 28 by decide) (hF 2 (by kernel_rfl)) rfl) _ _ _ _ _ rfl _ _ (eval_at 8 3 _ (by kernel_rfl) (show 8 < 28 by decide) (hF 3 (by kernel_rfl))) (eval_at 12 7 _ (by kernel_rfl) (show 12 < 28 by decide) (hF 7 (by kernel_rfl))) _ (run_geqI w1 _ _ _ hge _ _) ⟨_, rfl, rfl, rfl⟩
      | 9, ho =>
        obtain rfl := Option.some.inj ho
        exact gstep_pick rfl (wanted0 rfl) _ _ _ rfl true (eval_at 7 2 _ (by kernel_rfl) (show 7 < 28 by decide) (hF 2 (by kernel_rfl))) _ (by rw [if_pos rfl]; exact (eval_at 13 8 _ (by kernel_rfl) (show 13 < 28 by decide) (hF 8 (by kernel_rfl)))) ⟨_, rfl, rfl, rfl⟩
      | 10, ho =>
        obtain rfl := Option.some.inj ho
        exact gstep_move rfl (wanted0 rfl) _ rfl _ (eval_at 14 9 _ (by kernel_rfl) (show 14 < 28 by decide) (hF 9 (by kernel_rfl))) ⟨_, rfl, rfl, rfl⟩
      | 11, ho =>
        obtain rfl := Option.some.inj ho
        exact gstep_move rfl (wanted_at 15 10 true _ true rfl (by kernel_rfl) (show 15 < 28 by decide) (hF 10 (by kernel_rfl)) rfl) _ rfl _ (eval_of 1 _ (by kernel_rfl) rfl) ⟨_, rfl, rfl, rfl⟩
      | 12, ho =>
        obtain rfl := Option.some.inj ho
        exact gstep_move rfl (wanted_at 15 10 true _ true rfl (by kernel_rfl) (show 15 < 28 by decide) (hF 10 (by kernel_rfl)) rfl) _ rfl _ (eval_of 0 _ (by kernel_rfl) rfl) ⟨_, rfl, rfl, rfl⟩
      | 13, ho =>
        obtain rfl := Option.some.inj ho
        exact gstep_nil rfl (wanted_at 15 10 true _ true rfl (by kernel_rfl) (show 15 < 28 by decide) (hF 10 (by kernel_rfl)) rfl) _ rfl _ (eval_at 17 12 _ (by kernel_rfl) (show 17 < 28 by decide) (hF 12 (by kernel_rfl))) ⟨_, rfl, rfl, rfl⟩
      | 14, ho =>
        obtain rfl := Option.some.inj ho
        exact gstep_field rfl (wanted_at 15 10 true _ true rfl (by kernel_rfl) (show 15 < 28 by decide) (hF 10 (by kernel_rfl)) rfl) _ _ _ rfl _ (eval_at 18 13 _ (by kernel_rfl) (show 18 < 28 by decide) (hF 13 (by kernel_rfl))) _ (run_lgf3 w1 _) ⟨_, rfl, rfl, rfl⟩
      | 15, ho =>
        obtain rfl := Option.some.inj ho
        exact gstep_load rfl (wanted_at 15 10 true _ true rfl (by kernel_rfl) (show 15 < 28 by decide) (hF 10 (by kernel_rfl)) rfl) _ _ rfl _ (eval_at 19 14 _ (by kernel_rfl) (show 19 < 28 by decide) (hF 14 (by kernel_rfl))) _ (run_loadI w1 _ _ (by rw [← hR]; exact c3)) ⟨_, rfl, rfl, rfl⟩
      | 16, ho =>
        obtain rfl := Option.some.inj ho
        exact gstep_bin rfl (wanted_at 15 10 true _ true rfl (by kernel_rfl) (show 15 < 28 by decide) (hF 10 (by kernel_rfl)) rfl) _ _ _ _ _ rfl _ _ (eval_at 16 11 _ (by kernel_rfl) (show 16 < 28 by decide) (hF 11 (by kernel_rfl))) (eval_at 20 15 _ (by kernel_rfl) (show 20 < 28 by decide) (hF 15 (by kernel_rfl))) _ (run_subI w1 _ _ _ hsub _ _) ⟨_, rfl, rfl, rfl⟩
      | 17, ho =>
        obtain rfl := Option.some.inj ho
        exact gstep_move rfl (wanted_at 15 10 true _ true rfl (by kernel_rfl) (show 15 < 28 by decide) (hF 10 (by kernel_rfl)) rfl) _ rfl _ (eval_of 0 _ (by kernel_rfl) rfl) ⟨_, rfl, rfl, rfl⟩
      | 18, ho =>
        obtain rfl := Option.some.inj ho
        exact gstep_nil rfl (wanted_at 15 10 true _ true rfl (by kernel_rfl) (show 15 < 28 by decide) (hF 10 (by kernel_rfl)) rfl) _ rfl _ (eval_at 22 17 _ (by kernel_rfl) (show 22 < 28 by decide) (hF 17 (by kernel_rfl))) ⟨_, rfl, rfl, rfl⟩
      | 19, ho =>
        obtain rfl := Option.some.inj ho
        exact gstep_field rfl (wanted_at 15 10 true _ true rfl (by kernel_rfl) (show 15 < 28 by decide) (hF 10 (by kernel_rfl)) rfl) _ _ _ rfl _ (eval_at 23 18 _ (by kernel_rfl) (show 23 < 28 by decide) (hF 18 (by kernel_rfl))) _ (run_lgf4 w1 _) ⟨_, rfl, rfl, rfl⟩
      | 20, ho =>
        obtain rfl := Option.some.inj ho
        exact gstep_load rfl (wanted_at 15 10 true _ true rfl (by kernel_rfl) (show 15 < 28 by decide) (hF 10 (by kernel_rfl)) rfl) _ _ rfl _ (eval_at 24 19 _ (by kernel_rfl) (show 24 < 28 by decide) (hF 19 (by kernel_rfl))) _ (run_loadI w1 _ _ (by rw [← hR]; exact c4)) ⟨_, rfl, rfl, rfl⟩
      | 21, ho =>
        obtain rfl := Option.some.inj ho
        exact gstep_bin rfl (wanted_at 15 10 true _ true rfl (by kernel_rfl) (show 15 < 28 by decide) (hF 10 (by kernel_rfl)) rfl) _ _ _ _ _ rfl _ _ (eval_at 21 16 _ (by kernel_rfl) (show 21 < 28 by decide) (hF 16 (by kernel_rfl))) (eval_at 25 20 _ (by kernel_rfl) (show 25 < 28 by decide) (hF 20 (by kernel_rfl))) _ (run_lssI w1 _ _ _ hq _ _) ⟨_, rfl, rfl, rfl⟩
      | 22, ho =>
        obtain rfl := Option.some.inj ho
        exact gstep_pick rfl (wanted0 rfl) _ _ _ rfl true (eval_at 15 10 _ (by kernel_rfl) (show 15 < 28 by decide) (hF 10 (by kernel_rfl))) _ (by rw [if_pos rfl]; exact (eval_at 26 21 _ (by kernel_rfl) (show 26 < 28 by decide) (hF 21 (by kernel_rfl)))) ⟨_, rfl, rfl, rfl⟩
      | 23, ho =>
        obtain rfl := Option.some.inj ho
        exact gstep_assign rfl (wanted0 rfl) _ rfl _ (eval_at 27 22 _ (by kernel_rfl) (show 27 < 28 by decide) (hF 22 (by kernel_rfl))) ⟨_, rfl, rfl, rfl⟩
      | n + 24, ho => simp at ho
    · intro x w6 hR hF
      have hl : x 23 = .bool q := hF 23 (by decide)
      simp only [putAll, hl, Act.put, List.setIfInBounds_toArray, List.set_cons_succ, List.set_cons_zero]
      go_wp2_with fail
      go_ret
      exact ⟨by rw [HV.out]; rfl, by rw [← hR]; exact (Below.refl _ w).drew⟩

  · have hge : decide (L.first ≤ i) = false := by simpa using hg
    have HV : Hid (L.has i = false) := by
      show L.has i = false
      simp [Lg.has, hg]
    obtain ⟨q, _⟩ : ∃ q : Bool, q = true := ⟨_, rfl⟩
    clear hg
    go_enter Tryd.func42, Tryd.ntmps42
    go_wp2_with fail
    refine wp_region_steps (FLhas b i L.first L.count q) (fun w w' => w = w') (by kernel_rfl) (by kernel_rfl) (by kernel_rfl) rfl ?_ (fun u v w h1 h2 => h1.trans h2) ?_ ?_
    · intro j v w w' _ h1 h2
      exact FLhas_keep (b := b) (i := i) (f := L.first) (c := L.count) (q := q) j h1
    · intro j o ho x w1 hR hF
      match j, ho with
      | 0, ho =>
        obtain rfl := Option.some.inj ho
        exact gstep_move rfl (wanted0 rfl) _ rfl _ (eval_of 0 _ (by kernel_rfl) rfl) ⟨_, rfl, rfl, rfl⟩
      | 1, ho =>
        obtain rfl := Option.some.inj ho
        exact gstep_bin rfl (wanted0 rfl) _ _ _ _ _ rfl _ _ (eval_at 5 0 _ (by kernel_rfl) (show 5 < 28 by decide) (hF 0 (by kernel_rfl))) rfl _ (run_neqP w1 b _ _) ⟨_, rfl, rfl, rfl⟩
      | 2, ho =>
        obtain rfl := Option.some.inj ho
        exact gstep_move rfl (wanted0 rfl) _ rfl _ (eval_at 6 1 _ (by kernel_rfl) (show 6 < 28 by decide) (hF 1 (by kernel_rfl))) ⟨_, rfl, rfl, rfl⟩
      | 3, ho =>
        obtain rfl := Option.some.inj ho
        exact gstep_move rfl (wanted_at 7 2 true _ true rfl (by kernel_rfl) (show 7 < 28 by decide) (hF 2 (by kernel_rfl)) rfl) _ rfl _ (eval_of 1 _ (by kernel_rfl) rfl) ⟨_, rfl, rfl, rfl⟩
      | 4, ho =>
        obtain rfl := Option.some.inj ho
        exact gstep_move rfl (wanted_at 7 2 true _ true rfl (by kernel_rfl) (show 7 < 28 by decide) (hF 2 (by kernel_rfl)) rfl) _ rfl _ (eval_of 0 _ (by kernel_rfl) rfl) ⟨_, rfl, rfl, rfl⟩
      | 5, ho =>
        obtain rfl := Option.some.inj ho
        exact gstep_nil rfl (wanted_at 7 2 true _ true rfl (by kernel_rfl) (show 7 < 28 by decide) (hF 2 (by kernel_rfl)) rfl) _ rfl _ (eval_at 9 4 _ (by kernel_rfl) (show 9 < 28 by decide) (hF 4 (by kernel_rfl))) ⟨_, rfl, rfl, rfl⟩
      | 6, ho =>
        obtain rfl := Option.some.inj ho
        exact gstep_field rfl (wanted_at 7 2 true _ true rfl (by kernel_rfl) (show 7 < 28 by decide) (hF 2 (by kernel_rfl)) rfl) _ _ _ rfl _ (eval_at 10 5 _ (by kernel_rfl) (show 10 < 28 by decide) (hF 5 (by kernel_rfl))) _ (run_lgf3 w1 _) ⟨_, rfl, rfl, rfl⟩
      | 7, ho =>
        obtain rfl := Option.some.inj ho
        exact gstep_load rfl (wanted_at 7 2 true _ true rfl (by kernel_rfl) (show 7 < 28 by decide) (hF 2 (by kernel_rfl)) rfl) _ _ rfl _ (eval_at 11 6 _ (by kernel_rfl) (show 11 < 28 by decide) (hF 6 (by kernel_rfl))) _ (run_loadI w1 _ _ (by rw [← hR]; exact c3)) ⟨_, rfl, rfl, rfl⟩
      | 8, ho =>
        obtain rfl := Option.some.inj ho
        exact gstep_bin rfl (wanted_at 7 2 true _ true rfl (by kernel_rfl) (show 7 < 28 by decide) (hF 2 (by kernel_rfl)) rfl) _ _ _ _ _ rfl _ _ (eval_at 8 3 _ (by kernel_rfl) (show 8 < 28 by decide) (hF 3 (by kernel_rfl))) (eval_at 12 7 _ (by kernel_rfl) (show 12 < 28 by decide) (hF 7 (by kernel_rfl))) _ (run_geqI w1 _ _ _ hge _ _) ⟨_, rfl, rfl, rfl⟩
      | 9, ho =>
        obtain rfl := Option.some.inj ho
        exact gstep_pick rfl (wanted0 rfl) _ _ _ rfl true (eval_at 7 2 _ (by kernel_rfl) (show 7 < 28 by decide) (hF 2 (by kernel_rfl))) _ (by rw [if_pos rfl]; exact (eval_at 13 8 _ (by kernel_rfl) (show 13 < 28 by decide) (hF 8 (by kernel_rfl)))) ⟨_, rfl, rfl, rfl⟩
      | 10, ho =>
        obtain rfl := Option.some.inj ho
        exact gstep_move rfl (wanted0 rfl) _ rfl _ (eval_at 14 9 _ (by kernel_rfl) (show 14 < 28 by decide) (hF 9 (by kernel_rfl))) ⟨_, rfl, rfl, rfl⟩
      | 11, ho =>
        obtain rfl := Option.some.inj ho
        exact gstep_skip rfl (wanted_at 15 10 true _ false rfl (by kernel_rfl) (show 15 < 28 by decide) (hF 10 (by kernel_rfl)) rfl) ⟨_, rfl, rfl, rfl⟩
      | 12, ho =>
        obtain rfl := Option.some.inj ho
        exact gstep_skip rfl (wanted_at 15 10 true _ false rfl (by kernel_rfl) (show 15 < 28 by decide) (hF 10 (by kernel_rfl)) rfl) ⟨_, rfl, rfl, rfl⟩
      | 13, ho =>
        obtain rfl := Option.some.inj ho
        exact gstep_skip rfl (wanted_at 15 10 true _ false rfl (by kernel_rfl) (show 15 < 28 by decide) (hF 10 (by kernel_rfl)) rfl) ⟨_, rfl, rfl, rfl⟩
      | 14, ho =>
        obtain rfl := Option.some.inj ho
        exact gstep_skip rfl (wanted_at 15 10 true _ false rfl (by kernel_rfl) (show 15 < 28 by decide) (hF 10 (by kernel_rfl)) rfl) ⟨_, rfl, rfl, rfl⟩
      | 15, ho =>
        obtain rfl := Option.some.inj ho
        exact gstep_skip rfl (wanted_at 15 10 true _ false rfl (by kernel_rfl) (show 15 < 28 by decide) (hF 10 (by kernel_rfl)) rfl) ⟨_, rfl, rfl, rfl⟩
      | 16, ho =>
        obtain rfl := Option.some.inj ho
        exact gstep_skip rfl (wanted_at 15 10 true _ false rfl (by kernel_rfl) (show 15 < 28 by decide) (hF 10 (by kernel_rfl)) rfl) ⟨_, rfl, rfl, rfl⟩
      | 17, ho =>
        obtain rfl := Option.some.inj ho
        exact gstep_skip rfl (wanted_at 15 10 true _ false rfl (by kernel_rfl) (show 15 < 28 by decide) (hF 10 (by kernel_rfl)) rfl) ⟨_, rfl, rfl, rfl⟩
      | 18, ho =>
        obtain rfl := Option.some.inj ho
        exact gstep_skip rfl (wanted_at 15 10 true _ false rfl (by kernel_rfl) (show 15 < 28 by decide) (hF 10 (by kernel_rfl)) rfl) ⟨_, rfl, rfl, rfl⟩
      | 19, ho =>
        obtain rfl := Option.some.inj ho
        exact gstep_skip rfl (wanted_at 15 10 true _ false rfl (by kernel_rfl) (show 15 < 28 by decide) (hF 10 (by kernel_rfl)) rfl) ⟨_, rfl, rfl, rfl⟩
      | 20, ho =>
        obtain rfl := Option.some.inj ho
        exact gstep_skip rfl (wanted_at 15 10 true _ false rfl (by kernel_rfl) (show 15 < 28 by decide) (hF 10 (by kernel_rfl)) rfl) ⟨_, rfl, rfl, rfl⟩
      | 21, ho =>
        obtain rfl := Option.some.inj ho
        exact gstep_skip rfl (wanted_at 15 10 true _ false rfl (by kernel_rfl) (show 15 < 28 by decide) (hF 10 (by kernel_rfl)) rfl) ⟨_, rfl, rfl, rfl⟩
      | 22, ho =>
        obtain rfl := Option.some.inj ho
        exact gstep_pick rfl (wanted0 rfl) _ _ _ rfl false (eval_at 15 10 _ (by kernel_rfl) (show 15 < 28 by decide) (hF 10 (by kernel_rfl))) _ (by rw [if_neg (by decide)]; exact rfl) ⟨_, rfl, rfl, rfl⟩
      | 23, ho =>
        obtain rfl := Option.some.inj ho
        exact gstep_assign rfl (wanted0 rfl) _ rfl _ (eval_at 27 22 _ (by kernel_rfl) (show 27 < 28 by decide) (hF 22 (by kernel_rfl))) ⟨_, rfl, rfl, rfl⟩
      | n + 24, ho => simp at ho
    · intro x w6 hR hF
      have hl : x 23 = .bool false := hF 23 (by decide)
      simp only [putAll, hl, Act.put, List.setIfInBounds_toArray, List.set_cons_succ, List.set_cons_zero]
      go_wp2_with fail
      go_ret
      exact ⟨by rw [HV.out]; rfl, by rw [← hR]; exact (Below.refl _ w).drew⟩


def FNhasNext (b : Nat) (i f c : Int) (q : Bool) : Nat → Value → World → Prop
  | 0, v, _ => v = .pointer none
  | 1, v, _ => v = .bool false
  | 2, v, _ => v = .bool false
  | 3, v, _ => v = undef
  | 4, v, _ => v = undef
  | 5, v, _ => v = undef
  | 6, v, _ => v = undef
  | 7, v, _ => v = undef
  | 8, v, _ => v = undef
  | 9, v, _ => v = .bool false
  | 10, v, _ => v = .bool false
  | 11, v, _ => v = undef
  | 12, v, _ => v = undef
  | 13, v, _ => v = undef
  | 14, v, _ => v = undef
  | 15, v, _ => v = undef
  | 16, v, _ => v = undef
  | 17, v, _ => v = undef
  | 18, v, _ => v = undef
  | 19, v, _ => v = undef
  | 20, v, _ => v = undef
  | 21, v, _ => v = undef
  | 22, v, _ => v = .bool false
  | 23, v, _ => v = .bool false
  | _, _, _ => True
theorem FNhasNext_keep {b : Nat} {i f c : Int} {q : Bool} {v : Value} {w w' : World} : ∀ j : Nat, FNhasNext b i f c q j v w → FNhasNext b i f c q j v w'
  | 0, h => h
  | 1, h => h
  | 2, h => h
  | 3, h => h
  | 4, h => h
  | 5, h => h
  | 6, h => h
  | 7, h => h
  | 8, h => h
  | 9, h => h
  | 10, h => h
  | 11, h => h
  | 12, h => h
  | 13, h => h
  | 14, h => h
  | 15, h => h
  | 16, h => h
  | 17, h => h
  | 18, h => h
  | 19, h => h
  | 20, h => h
  | 21, h => h
  | 22, h => h
  | 23, h => h
  | _ + 24, _ => trivial

def FLhasNext (b : Nat) (i f c : Int) (q : Bool) : Nat → Value → World → Prop
  | 0, v, _ => v = .pointer (some ⟨b, 0, none⟩)
  | 1, v, _ => v = .bool true
  | 2, v, _ => v = .bool true
  | 3, v, _ => v = .int .i64 i
  | 4, v, _ => v = .pointer (some ⟨b, 0, none⟩)
  | 5, v, _ => v = .pointer (some ⟨b, 0, none⟩)
  | 6, v, _ => v = .pointer (some ⟨b, 3, none⟩)
  | 7, v, _ => v = .int .i64 f
  | 8, v, _ => v = .bool false
  | 9, v, _ => v = .bool false
  | 10, v, _ => v = .bool false
  | 11, v, _ => v = undef
  | 12, v, _ => v = undef
  | 13, v, _ => v = undef
  | 14, v, _ => v = undef
  | 15, v, _ => v = undef
  | 16, v, _ => v = undef
  | 17, v, _ => v = undef
  | 18, v, _ => v = undef
  | 19, v, _ => v = undef
  | 20, v, _ => v = undef
  | 21, v, _ => v = undef
  | 22, v, _ => v = .bool false
  | 23, v, _ => v = .bool false
  | _, _, _ => True
theorem FLhasNext_keep {b : Nat} {i f c : Int} {q : Bool} {v : Value} {w w' : World} : ∀ j : Nat, FLhasNext b i f c q j v w → FLhasNext b i f c q j v w'
  | 0, h => h
  | 1, h => h
  | 2, h => h
  | 3, h => h
  | 4, h => h
  | 5, h => h
  | 6, h => h
  | 7, h => h
  | 8, h => h
  | 9, h => h
  | 10, h => h
  | 11, h => h
  | 12, h => h
  | 13, h => h
  | 14, h => h
  | 15, h => h
  | 16, h => h
  | 17, h => h
  | 18, h => h
  | 19, h => h
  | 20, h => h
  | 21, h => h
  | 22, h => h
  | 23, h => h
  | _ + 24, _ => trivial

def FGhasNext (b : Nat) (i f c : Int) (q : Bool) : Nat → Value → World → Prop
  | 0, v, _ => v = .pointer (some ⟨b, 0, none⟩)
  | 1, v, _ => v = .bool true
  | 2, v, _ => v = .bool true
  | 3, v, _ => v = .int .i64 i
  | 4, v, _ => v = .pointer (some ⟨b, 0, none⟩)
  | 5, v, _ => v = .pointer (some ⟨b, 0, none⟩)
  | 6, v, _ => v = .pointer (some ⟨b, 3, none⟩)
  | 7, v, _ => v = .int .i64 f
  | 8, v, _ => v = .bool true
  | 9, v, _ => v = .bool true
  | 10, v, _ => v = .bool true
  | 11, v, _ => v = .int .i64 i
  | 12, v, _ => v = .pointer (some ⟨b, 0, none⟩)
  | 13, v, _ => v = .pointer (some ⟨b, 0, none⟩)
  | 14, v, _ => v = .pointer (some ⟨b, 3, none⟩)
  | 15, v, _ => v = .int .i64 f
  | 16, v, _ => v = .int .i64 (i - f)
  | 17, v, _ => v = .pointer (some ⟨b, 0, none⟩)
  | 18, v, _ => v = .pointer (some ⟨b, 0, none⟩)
  | 19, v, _ => v = .pointer (some ⟨b, 4, none⟩)
  | 20, v, _ => v = .int .i64 c
  | 21, v, _ => v = .bool q
  | 22, v, _ => v = .bool q
  | 23, v, _ => v = .bool q
  | _, _, _ => True
theorem FGhasNext_keep {b : Nat} {i f c : Int} {q : Bool} {v : Value} {w w' : World} : ∀ j : Nat, FGhasNext b i f c q j v w → FGhasNext b i f c q j v w'
  | 0, h => h
  | 1, h => h
  | 2, h => h
  | 3, h => h
  | 4, h => h
  | 5, h => h
  | 6, h => h
  | 7, h => h
  | 8, h => h
  | 9, h => h
  | 10, h => h
  | 11, h => h
  | 12, h => h
  | 13, h => h
  | 14, h => h
  | 15, h => h
  | 16, h => h
  | 17, h => h
  | 18, h => h
  | 19, h => h
  | 20, h => h
  | 21, h => h
  | 22, h => h
  | 23, h => h
  | _ + 24, _ => trivial

set_option maxHeartbeats 4000000 in
theorem phasNext_nil (i : Int) (w : World) : Calls Tryd.prog 67 #[.pointer none, .int .i64 i] w fun e w' => e = .returned (.bool false) ∧ Below w.heap.size w w' := by
  have q : Bool := false
  have b : Nat := 0
  have L : Lg := ⟨0, 0, 0, 0⟩
  go_enter Tryd.func67, Tryd.ntmps67
  go_wp2_with fail
  refine wp_region_steps (FNhasNext b i L.first L.count q) (fun w w' => w = w') (by kernel_rfl) (by kernel_rfl) (by kernel_rfl) rfl ?_ (fun u v w h1 h2 => h1.trans h2) ?_ ?_
  · intro j v w w' _ h1 h2
    exact FNhasNext_keep (b := b) (i := i) (f := L.first) (c := L.count) (q := q) j h1
  · intro j o ho x w1 hR hF
    match j, ho with
    | 0, ho =>
      obtain rfl := Option.some.inj ho
      exact gstep_move rfl (wanted0 rfl) _ rfl _ (eval_of 0 _ (by kernel_rfl) rfl) ⟨_, rfl, rfl, rfl⟩
    | 1, ho =>
      obtain rfl := Option.some.inj ho
      exact gstep_bin rfl (wanted0 rfl) _ _ _ _ _ rfl _ _ (eval_at 5 0 _ (by kernel_rfl) (show 5 < 28 by decide) (hF 0 (by kernel_rfl))) rfl _ (run_neqN w1 _ _) ⟨_, rfl, rfl, rfl⟩
    | 2, ho =>
      obtain rfl := Option.some.inj ho
      exact gstep_move rfl (wanted0 rfl) _ rfl _ (eval_at 6 1 _ (by kernel_rfl) (show 6 < 28 by decide) (hF 1 (by kernel_rfl))) ⟨_, rfl, rfl, rfl⟩
    | 3, ho =>
      obtain rfl := Option.some.inj ho
      exact gstep_skip rfl (wanted_at 7 2 true _ false rfl (by kernel_rfl) (show 7 < 28 by decide) (hF 2 (by kernel_rfl)) rfl) ⟨_, rfl, rfl, rfl⟩
    | 4, ho =>
      obtain rfl := Option.some.inj ho
      exact gstep_skip rfl (wanted_at 7 2 true _ false rfl (by kernel_rfl) (show 7 < 28 by decide) (hF 2 (by kernel_rfl)) rfl) ⟨_, rfl, rfl, rfl⟩
    | 5, ho =>
      obtain rfl := Option.some.inj ho
      exact gstep_skip rfl (wanted_at 7 2 true _ false rfl (by kernel_rfl) (show 7 < 28 by decide) (hF 2 (by kernel_rfl)) rfl) ⟨_, rfl, rfl, rfl⟩
    | 6, ho =>
      obtain rfl := Option.some.inj ho
      exact gstep_skip rfl (wanted_at 7 2 true _ false rfl (by kernel_rfl) (show 7 < 28 by decide) (hF 2 (by kernel_rfl)) rfl) ⟨_, rfl, rfl, rfl⟩
    | 7, ho =>
      obtain rfl := Option.some.inj ho
      exact gstep_skip rfl (wanted_at 7 2 true _ false rfl (by kernel_rfl) (show 7 < 28 by decide) (hF 2 (by kernel_rfl)) rfl) ⟨_, rfl, rfl, rfl⟩
    | 8, ho =>
      obtain rfl := Option.some.inj ho
      exact gstep_skip rfl (wanted_at 7 2 true _ false rfl (by kernel_rfl) (show 7 < 28 by decide) (hF 2 (by kernel_rfl)) rfl) ⟨_, rfl, rfl, rfl⟩
    | 9, ho =>
      obtain rfl := Option.some.inj ho
      exact gstep_pick rfl (wanted0 rfl) _ _ _ rfl false (eval_at 7 2 _ (by kernel_rfl) (show 7 < 28 by decide) (hF 2 (by kernel_rfl))) _ (by rw [if_neg (by decide)]; exact rfl) ⟨_, rfl, rfl, rfl⟩
    | 10, ho =>
      obtain rfl := Option.some.inj ho
      exact gstep_move rfl (wanted0 rfl) _ rfl _ (eval_at 14 9 _ (by kernel_rfl) (show 14 < 28 by decide) (hF 9 (by kernel_rfl))) ⟨_, rfl, rfl, rfl⟩
    | 11, ho =>
      obtain rfl := Option.some.inj ho
      exact gstep_skip rfl (wanted_at 15 10 true _ false rfl (by kernel_rfl) (show 15 < 28 by decide) (hF 10 (by kernel_rfl)) rfl) ⟨_, rfl, rfl, rfl⟩
    | 12, ho =>
      obtain rfl := Option.some.inj ho
      exact gstep_skip rfl (wanted_at 15 10 true _ false rfl (by kernel_rfl) (show 15 < 28 by decide) (hF 10 (by kernel_rfl)) rfl) ⟨_, rfl, rfl, rfl⟩
    | 13, ho =>
      obtain rfl := Option.some.inj ho
      exact gstep_skip rfl (wanted_at 15 10 true _ false rfl (by kernel_rfl) (show 15 < 28 by decide) (hF 10 (by kernel_rfl)) rfl) ⟨_, rfl, rfl, rfl⟩
    | 14, ho =>
      obtain rfl := Option.some.inj ho
      exact gstep_skip rfl (wanted_at 15 10 true _ false rfl (by kernel_rfl) (show 15 < 28 by decide) (hF 10 (by kernel_rfl)) rfl) ⟨_, rfl, rfl, rfl⟩
    | 15, ho =>
      obtain rfl := Option.some.inj ho
      exact gstep_skip rfl (wanted_at 15 10 true _ false rfl (by kernel_rfl) (show 15 < 28 by decide) (hF 10 (by kernel_rfl)) rfl) ⟨_, rfl, rfl, rfl⟩
    | 16, ho =>
      obtain rfl := Option.some.inj ho
      exact gstep_skip rfl (wanted_at 15 10 true _ false rfl (by kernel_rfl) (show 15 < 28 by decide) (hF 10 (by kernel_rfl)) rfl) ⟨_, rfl, rfl, rfl⟩
    | 17, ho =>
      obtain rfl := Option.some.inj ho
      exact gstep_skip rfl (wanted_at 15 10 true _ false rfl (by kernel_rfl) (show 15 < 28 by decide) (hF 10 (by kernel_rfl)) rfl) ⟨_, rfl, rfl, rfl⟩
    | 18, ho =>
      obtain rfl := Option.some.inj ho
      exact gstep_skip rfl (wanted_at 15 10 true _ false rfl (by kernel_rfl) (show 15 < 28 by decide) (hF 10 (by kernel_rfl)) rfl) ⟨_, rfl, rfl, rfl⟩
    | 19, ho =>
      obtain rfl := Option.some.inj ho
      exact gstep_skip rfl (wanted_at 15 10 true _ false rfl (by kernel_rfl) (show 15 < 28 by decide) (hF 10 (by kernel_rfl)) rfl) ⟨_, rfl, rfl, rfl⟩
    | 20, ho =>
      obtain rfl := Option.some.inj ho
      exact gstep_skip rfl (wanted_at 15 10 true _ false rfl (by kernel_rfl) (show 15 < 28 by decide) (hF 10 (by kernel_rfl)) rfl) ⟨_, rfl, rfl, rfl⟩
    | 21, ho =>
      obtain rfl := Option.some.inj ho
      exact gstep_skip rfl (wanted_at 15 10 true _ false rfl (by kernel_rfl) (show 15 < 28 by decide) (hF 10 (by kernel_rfl)) rfl) ⟨_, rfl, rfl, rfl⟩
    | 22, ho =>
      obtain rfl := Option.some.inj ho
      exact gstep_pick rfl (wanted0 rfl) _ _ _ rfl false (eval_at 15 10 _ (by kernel_rfl) (show 15 < 28 by decide) (hF 10 (by kernel_rfl))) _ (by rw [if_neg (by decide)]; exact rfl) ⟨_, rfl, rfl, rfl⟩
    | 23, ho =>
      obtain rfl := Option.some.inj ho
      exact gstep_assign rfl (wanted0 rfl) _ rfl _ (eval_at 27 22 _ (by kernel_rfl) (show 27 < 28 by decide) (hF 22 (by kernel_rfl))) ⟨_, rfl, rfl, rfl⟩
    | n + 24, ho => simp at ho
  · intro x w6 hR hF
    have hl : x 23 = .bool false := hF 23 (by decide)
    simp only [putAll, hl, Act.put, List.setIfInBounds_toArray, List.set_cons_succ, List.set_cons_zero]
    go_wp2_with fail
    go_ret
    exact ⟨rfl, by rw [← hR]; exact (Below.refl _ w).drew⟩

set_option maxHeartbeats 4000000 in
theorem phasNext_any {w : World} {b B bt bd : Nat} {L : Lg} (i : Int) (h : LogB w b B bt bd L) (hf : 0 ≤ L.first) (hi : i ≤ 9223372036854775807) :
    Calls Tryd.prog 67 #[.pointer (some ⟨b, 0, none⟩), .int .i64 i] w fun e w' => e = .returned (.bool (L.hasNext i)) ∧ Below w.heap.size w w' := by
  obtain ⟨⟨_, _, _, c3', c4', _, _⟩, _⟩ := h.cells
  have c3 : w.drew.cell? ⟨b, 3, none⟩ = some (.int .i64 L.first) := c3'
  have c4 : w.drew.cell? ⟨b, 4, none⟩ = some (.int .i64 L.count) := c4'
  clear c3' c4'
  by_cases hg : L.first ≤ i
  · have hge : decide (L.first ≤ i) = true := by simpa using hg
    have hsub : IntKind.i64.wrap (i - L.first) = i - L.first := IntWalk.i64_in _ (by omega)
    obtain ⟨q, hq⟩ : ∃ q, decide (i - L.first ≤ L.count) = q := ⟨_, rfl⟩
    have HV : Hid (L.hasNext i = q) := by
      show L.hasNext i = q
      rw [← hq]
      simp [Lg.hasNext, hg]
    clear hg
    go_enter Tryd.func67, Tryd.ntmps67
    go_wp2_with fail
    refine wp_region_steps (FGhasNext b i L.first L.count q) (fun w w' => w = w') (by kernel_rfl) (by kernel_rfl) (by kernel_rfl) rfl ?_ (fun u v w h1 h2 => h1.trans h2) ?_ ?_
    · intro j v w w' _ h1 h2
      exact FGhasNext_keep (b := b) (i := i) (f := L.first) (c := L.count) (q := q) j h1
    · intro j o ho x w1 hR hF
      match j, ho with
      | 0, ho =>
        obtain rfl := Option.some.inj ho
        exact gstep_move rfl (wanted0 rfl) _ rfl _ (eval_of 0 _ (by kernel_rfl) rfl) ⟨_, rfl, rfl, rfl⟩
      | 1, ho =>
        obtain rfl := Option.some.inj ho
        exact gstep_bin rfl (wanted0 rfl) _ _ _ _ _ rfl _ _ (eval_at 5 0 _ (by kernel_rfl) (show 5 < 28 by decide) (hF 0 (by kernel_rfl))) rfl _ (run_neqP w1 b _ _) ⟨_, rfl, rfl, rfl⟩
      | 2, ho =>
        obtain rfl := Option.some.inj ho
        exact gstep_move rfl (wanted0 rfl) _ rfl _ (eval_at 6 1 _ (by kernel_rfl) (show 6 < 28 by decide) (hF 1 (by kernel_rfl))) ⟨_, rfl, rfl, rfl⟩
      | 3, ho =>
        obtain rfl := Option.some.inj ho
        exact gstep_move rfl (wanted_at 7 2 true _ true rfl (by kernel_rfl) (show 7 < 28 by decide) (hF 2 (by kernel_rfl)) rfl) _ rfl _ (eval_of 1 _ (by kernel_rfl) rfl) ⟨_, rfl, rfl, rfl⟩
      | 4, ho =>
        obtain rfl := Option.some.inj ho
        exact gstep_move rfl (wanted_at 7 2 true _ true rfl (by kernel_rfl) (show 7 < 28 by decide) (hF 2 (by kernel_rfl)) rfl) _ rfl _ (eval_of 0 _ (by kernel_rfl) rfl) ⟨_, rfl, rfl, rfl⟩
      | 5, ho =>
        obtain rfl := Option.some.inj ho
        exact gstep_nil rfl (wanted_at 7 2 true _ true rfl (by kernel_rfl) (show 7 < 28 by decide) (hF 2 (by kernel_rfl)) rfl) _ rfl _ (eval_at 9 4 _ (by kernel_rfl) (show 9 < 28 by decide) (hF 4 (by kernel_rfl))) ⟨_, rfl, rfl, rfl⟩
      | 6, ho =>
        obtain rfl := Option.some.inj ho
        exact gstep_field rfl (wanted_at 7 2 true _ true rfl (by kernel_rfl) (show 7 < 28 by decide) (hF 2 (by kernel_rfl)) rfl) _ _ _ rfl _ (eval_at 10 5 _ (by kernel_rfl) (show 10 < 28 by decide) (hF 5 (by kernel_rfl))) _ (run_lgf3 w1 _) ⟨_, rfl, rfl, rfl⟩
      | 7, ho =>
        obtain rfl := Option.some.inj ho
        exact gstep_load rfl (wanted_at 7 2 true _ true rfl (by kernel_rfl) (show 7 < 28 by decide) (hF 2 (by kernel_rfl)) rfl) _ _ rfl _ (eval_at 11 6 _ (by kernel_rfl) (show 11 < 28 by decide) (hF 6 (by kernel_rfl))) _ (run_loadI w1 _ _ (by rw [← hR]; exact c3)) ⟨_, rfl, rfl, rfl⟩
      | 8, ho =>
        obtain rfl := Option.some.inj ho
        exact gstep_bin rfl (wanted_at 7 2 true _ true rfl (by kernel_rfl) (show 7 < 28 by decide) (hF 2 (by kernel_rfl)) rfl) _ _ _ _ _ rfl _ _ (eval_at 8 3 _ (by kernel_rfl) (show 8 < 28 by decide) (hF 3 (by kernel_rfl))) (eval_at 12 7 _ (by kernel_rfl) (show 12 < 28 by decide) (hF 7 (by kernel_rfl))) _ (run_geqI w1 _ _ _ hge _ _) ⟨_, rfl, rfl, rfl⟩
      | 9, ho =>
        obtain rfl := Option.some.inj ho
        exact gstep_pick rfl (wanted0 rfl) _ _ _ rfl true (eval_at 7 2 _ (by kernel_rfl) (show 7 < 28 by decide) (hF 2 (by kernel_rfl))) _ (by rw [if_pos rfl]; exact (eval_at 13 8 _ (by kernel_rfl) (show 13 < 28 by decide) (hF 8 (by kernel_rfl)))) ⟨_, rfl, rfl, rfl⟩
      | 10, ho =>
        obtain rfl := Option.some.inj ho
        exact gstep_move rfl (wanted0 rfl) _ rfl _ (eval_at 14 9 _ (by kernel_rfl) (show 14 < 28 by decide) (hF 9 (by kernel_rfl))) ⟨_, rfl, rfl, rfl⟩
      | 11, ho =>
        obtain rfl := Option.some.inj ho
        exact gstep_move rfl (wanted_at 15 10 true _ true rfl (by kernel_rfl) (show 15 < 28 by decide) (hF 10 (by kernel_rfl)) rfl) _ rfl _ (eval_of 1 _ (by kernel_rfl) rfl) ⟨_, rfl, rfl, rfl⟩
      | 12, ho =>
        obtain rfl := Option.some.inj ho
        exact gstep_move rfl (wanted_at 15 10 true _ true rfl (by kernel_rfl) (show 15 < 28 by decide) (hF 10 (by kernel_rfl)) rfl) _ rfl _ (eval_of 0 _ (by kernel_rfl) rfl) ⟨_, rfl, rfl, rfl⟩
      | 13, ho =>
        obtain rfl := Option.some.inj ho
        exact gstep_nil rfl (wanted_at 15 10 true _ true rfl (by kernel_rfl) (show 15 < 28 by decide) (hF 10 (by kernel_rfl)) rfl) _ rfl _ (eval_at 17 12 _ (by kernel_rfl) (show 17 < 28 by decide) (hF 12 (by kernel_rfl))) ⟨_, rfl, rfl, rfl⟩
      | 14, ho =>
        obtain rfl := Option.some.inj ho
        exact gstep_field rfl (wanted_at 15 10 true _ true rfl (by kernel_rfl) (show 15 < 28 by decide) (hF 10 (by kernel_rfl)) rfl) _ _ _ rfl _ (eval_at 18 13 _ (by kernel_rfl) (show 18 < 28 by decide) (hF 13 (by kernel_rfl))) _ (run_lgf3 w1 _) ⟨_, rfl, rfl, rfl⟩
      | 15, ho =>
        obtain rfl := Option.some.inj ho
        exact gstep_load rfl (wanted_at 15 10 true _ true rfl (by kernel_rfl) (show 15 < 28 by decide) (hF 10 (by kernel_rfl)) rfl) _ _ rfl _ (eval_at 19 14 _ (by kernel_rfl) (show 19 < 28 by decide) (hF 14 (by kernel_rfl))) _ (run_loadI w1 _ _ (by rw [← hR]; exact c3)) ⟨_, rfl, rfl, rfl⟩
      | 16, ho =>
        obtain rfl := Option.some.inj ho
        exact gstep_bin rfl (wanted_at 15 10 true _ true rfl (by kernel_rfl) (show 15 < 28 by decide) (hF 10 (by kernel_rfl)) rfl) _ _ _ _ _ rfl _ _ (eval_at 16 11 _ (by kernel_rfl) (show 16 < 28 by decide) (hF 11 (by kernel_rfl))) (eval_at 20 15 _ (by kernel_rfl) (show 20 < 28 by decide) (hF 15 (by kernel_rfl))) _ (run_subI w1 _ _ _ hsub _ _) ⟨_, rfl, rfl, rfl⟩
      | 17, ho =>
        obtain rfl := Option.some.inj ho
        exact gstep_move rfl (wanted_at 15 10 true _ true rfl (by kernel_rfl) (show 15 < 28 by decide) (hF 10 (by kernel_rfl)) rfl) _ rfl _ (eval_of 0 _ (by kernel_rfl) rfl) ⟨_, rfl, rfl, rfl⟩
      | 18, ho =>
        obtain rfl := Option.some.inj ho
        exact gstep_nil rfl (wanted_at 15 10 true _ true rfl (by kernel_rfl) (show 15 < 28 by decide) (hF 10 (by kernel_rfl)) rfl) _ rfl _ (eval_at 22 17 _ (by kernel_rfl) (show 22 < 28 by decide) (hF 17 (by kernel_rfl))) ⟨_, rfl, rfl, rfl⟩
      | 19, ho =>
        obtain rfl := Option.some.inj ho
        exact gstep_field rfl (wanted_at 15 10 true _ true rfl (by kernel_rfl) (show 15 < 28 by decide) (hF 10 (by kernel_rfl)) rfl) _ _ _ rfl _ (eval_at 23 18 _ (by kernel_rfl) (show 23 < 28 by decide) (hF 18 (by kernel_rfl))) _ (run_lgf4 w1 _) ⟨_, rfl, rfl, rfl⟩
      | 20, ho =>
        obtain rfl := Option.some.inj ho
        exact gstep_load rfl (wanted_at 15 10 true _ true rfl (by kernel_rfl) (show 15 < 28 by decide) (hF 10 (by kernel_rfl)) rfl) _ _ rfl _ (eval_at 24 19 _ (by kernel_rfl) (show 24 < 28 by decide) (hF 19 (by kernel_rfl))) _ (run_loadI w1 _ _ (by rw [← hR]; exact c4)) ⟨_, rfl, rfl, rfl⟩
      | 21, ho =>
        obtain rfl := Option.some.inj ho
        exact gstep_bin rfl (wanted_at 15 10 true _ true rfl (by kernel_rfl) (show 15 < 28 by decide) (hF 10 (by kernel_rfl)) rfl) _ _ _ _ _ rfl _ _ (eval_at 21 16 _ (by kernel_rfl) (show 21 < 28 by decide) (hF 16 (by kernel_rfl))) (eval_at 25 20 _ (by kernel_rfl) (show 25 < 28 by decide) (hF 20 (by kernel_rfl))) _ (run_leqI w1 _ _ _ hq _ _) ⟨_, rfl, rfl, rfl⟩
      | 22, ho =>
        obtain rfl := Option.some.inj ho
        exact gstep_pick rfl (wanted0 rfl) _ _ _ rfl true (eval_at 15 10 _ (by kernel_rfl) (show 15 < 28 by decide) (hF 10 (by kernel_rfl))) _ (by rw [if_pos rfl]; exact (eval_at 26 21 _ (by kernel_rfl) (show 26 < 28 by decide) (hF 21 (by kernel_rfl)))) ⟨_, rfl, rfl, rfl⟩
      | 23, ho =>
        obtain rfl := Option.some.inj ho
        exact gstep_assign rfl (wanted0 rfl) _ rfl _ (eval_at 27 22 _ (by kernel_rfl) (show 27 < 28 by decide) (hF 22 (by kernel_rfl))) ⟨_, rfl, rfl, rfl⟩
      | n + 24, ho => simp at ho
    · intro x w6 hR hF
      have hl : x 23 = .bool q := hF 23 (by decide)
      simp only [putAll, hl, Act.put, List.setIfInBounds_toArray, List.set_cons_succ, List.set_cons_zero]
      go_wp2_with fail
      go_ret
      exact ⟨by rw [HV.out]; rfl, by rw [← hR]; exact (Below.refl _ w).drew⟩

  · have hge : decide (L.first ≤ i) = false := by simpa using hg
    have HV : Hid (L.hasNext i = false) := by
      show L.hasNext i = false
      simp [Lg.hasNext, hg]
    obtain ⟨q, _⟩ : ∃ q : Bool, q = true := ⟨_, rfl⟩
    clear hg
    go_enter Tryd.func67, Tryd.ntmps67
    go_wp2_with fail
    refine wp_region_steps (FLhasNext b i L.first L.count q) (fun w w' => w = w') (by kernel_rfl) (by kernel_rfl) (by kernel_rfl) rfl ?_ (fun u v w h1 h2 => h1.trans h2) ?_ ?_
    · intro j v w w' _ h1 h2
      exact FLhasNext_keep (b := b) (i := i) (f := L.first) (c := L.count) (q := q) j h1
    · intro j o ho x w1 hR hF
      match j, ho with
      | 0, ho =>
        obtain rfl := Option.some.inj ho
        exact gstep_move rfl (wanted0 rfl) _ rfl _ (eval_of 0 _ (by kernel_rfl) rfl) ⟨_, rfl, rfl, rfl⟩
      | 1, ho =>
        obtain rfl := Option.some.inj ho
        exact gstep_bin rfl (wanted0 rfl) _ _ _ _ _ rfl _ _ (eval_at 5 0 _ (by kernel_rfl) (show 5 < 28 by decide) (hF 0 (by kernel_rfl))) rfl _ (run_neqP w1 b _ _) ⟨_, rfl, rfl, rfl⟩
      | 2, ho =>
        obtain rfl := Option.some.inj ho
        exact gstep_move rfl (wanted0 rfl) _ rfl _ (eval_at 6 1 _ (by kernel_rfl) (show 6 < 28 by decide) (hF 1 (by kernel_rfl))) ⟨_, rfl, rfl, rfl⟩
      | 3, ho =>
        obtain rfl := Option.some.inj ho
        exact gstep_move rfl (wanted_at 7 2 true _ true rfl (by kernel_rfl) (show 7 < 28 by decide) (hF 2 (by kernel_rfl)) rfl) _ rfl _ (eval_of 1 _ (by kernel_rfl) rfl) ⟨_, rfl, rfl, rfl⟩
      | 4, ho =>
        obtain rfl := Option.some.inj ho
        exact gstep_move rfl (wanted_at 7 2 true _ true rfl (by kernel_rfl) (show 7 < 28 by decide) (hF 2 (by kernel_rfl)) rfl) _ rfl _ (eval_of 0 _ (by kernel_rfl) rfl) ⟨_, rfl, rfl, rfl⟩
      | 5, ho =>
        obtain rfl := Option.some.inj ho
        exact gstep_nil rfl (wanted_at 7 2 true _ true rfl (by kernel_rfl) (show 7 < 28 by decide) (hF 2 (by kernel_rfl)) rfl) _ rfl _ (eval_at 9 4 _ (by kernel_rfl) (show 9 < 28 by decide) (hF 4 (by kernel_rfl))) ⟨_, rfl, rfl, rfl⟩
      | 6, ho =>
        obtain rfl := Option.some.inj ho
        exact gstep_field rfl (wanted_at 7 2 true _ true rfl (by kernel_rfl) (show 7 < 28 by decide) (hF 2 (by kernel_rfl)) rfl) _ _ _ rfl _ (eval_at 10 5 _ (by kernel_rfl) (show 10 < 28 by decide) (hF 5 (by kernel_rfl))) _ (run_lgf3 w1 _) ⟨_, rfl, rfl, rfl⟩
      | 7, ho =>
        obtain rfl := Option.some.inj ho
        exact gstep_load rfl (wanted_at 7 2 true _ true rfl (by kernel_rfl) (show 7 < 28 by decide) (hF 2 (by kernel_rfl)) rfl) _ _ rfl _ (eval_at 11 6 _ (by kernel_rfl) (show 11 < 28 by decide) (hF 6 (by kernel_rfl))) _ (run_loadI w1 _ _ (by rw [← hR]; exact c3)) ⟨_, rfl, rfl, rfl⟩
      | 8, ho =>
        obtain rfl := Option.some.inj ho
        exact gstep_bin rfl (wanted_at 7 2 true _ true rfl (by kernel_rfl) (show 7 < 28 by decide) (hF 2 (by kernel_rfl)) rfl) _ _ _ _ _ rfl _ _ (eval_at 8 3 _ (by kernel_rfl) (show 8 < 28 by decide) (hF 3 (by kernel_rfl))) (eval_at 12 7 _ (by kernel_rfl) (show 12 < 28 by decide) (hF 7 (by kernel_rfl))) _ (run_geqI w1 _ _ _ hge _ _) ⟨_, rfl, rfl, rfl⟩
      | 9, ho =>
        obtain rfl := Option.some.inj ho
        exact gstep_pick rfl (wanted0 rfl) _ _ _ rfl true (eval_at 7 2 _ (by kernel_rfl) (show 7 < 28 by decide) (hF 2 (by kernel_rfl))) _ (by rw [if_pos rfl]; exact (eval_at 13 8 _ (by kernel_rfl) (show 13 < 28 by decide) (hF 8 (by kernel_rfl)))) ⟨_, rfl, rfl, rfl⟩
      | 10, ho =>
        obtain rfl := Option.some.inj ho
        exact gstep_move rfl (wanted0 rfl) _ rfl _ (eval_at 14 9 _ (by kernel_rfl) (show 14 < 28 by decide) (hF 9 (by kernel_rfl))) ⟨_, rfl, rfl, rfl⟩
      | 11, ho =>
        obtain rfl := Option.some.inj ho
        exact gstep_skip rfl (wanted_at 15 10 true _ false rfl (by kernel_rfl) (show 15 < 28 by decide) (hF 10 (by kernel_rfl)) rfl) ⟨_, rfl, rfl, rfl⟩
      | 12, ho =>
        obtain rfl := Option.some.inj ho
        exact gstep_skip rfl (wanted_at 15 10 true _ false rfl (by kernel_rfl) (show 15 < 28 by decide) (hF 10 (by kernel_rfl)) rfl) ⟨_, rfl, rfl, rfl⟩
      | 13, ho =>
        obtain rfl := Option.some.inj ho
        exact gstep_skip rfl (wanted_at 15 10 true _ false rfl (by kernel_rfl) (show 15 < 28 by decide) (hF 10 (by kernel_rfl)) rfl) ⟨_, rfl, rfl, rfl⟩
      | 14, ho =>
        obtain rfl := Option.some.inj ho
        exact gstep_skip rfl (wanted_at 15 10 true _ false rfl (by kernel_rfl) (show 15 < 28 by decide) (hF 10 (by kernel_rfl)) rfl) ⟨_, rfl, rfl, rfl⟩
      | 15, ho =>
        obtain rfl := Option.some.inj ho
        exact gstep_skip rfl (wanted_at 15 10 true _ false rfl (by kernel_rfl) (show 15 < 28 by decide) (hF 10 (by kernel_rfl)) rfl) ⟨_, rfl, rfl, rfl⟩
      | 16, ho =>
        obtain rfl := Option.some.inj ho
        exact gstep_skip rfl (wanted_at 15 10 true _ false rfl (by kernel_rfl) (show 15 < 28 by decide) (hF 10 (by kernel_rfl)) rfl) ⟨_, rfl, rfl, rfl⟩
      | 17, ho =>
        obtain rfl := Option.some.inj ho
        exact gstep_skip rfl (wanted_at 15 10 true _ false rfl (by kernel_rfl) (show 15 < 28 by decide) (hF 10 (by kernel_rfl)) rfl) ⟨_, rfl, rfl, rfl⟩
      | 18, ho =>
        obtain rfl := Option.some.inj ho
        exact gstep_skip rfl (wanted_at 15 10 true _ false rfl (by kernel_rfl) (show 15 < 28 by decide) (hF 10 (by kernel_rfl)) rfl) ⟨_, rfl, rfl, rfl⟩
      | 19, ho =>
        obtain rfl := Option.some.inj ho
        exact gstep_skip rfl (wanted_at 15 10 true _ false rfl (by kernel_rfl) (show 15 < 28 by decide) (hF 10 (by kernel_rfl)) rfl) ⟨_, rfl, rfl, rfl⟩
      | 20, ho =>
        obtain rfl := Option.some.inj ho
        exact gstep_skip rfl (wanted_at 15 10 true _ false rfl (by kernel_rfl) (show 15 < 28 by decide) (hF 10 (by kernel_rfl)) rfl) ⟨_, rfl, rfl, rfl⟩
      | 21, ho =>
        obtain rfl := Option.some.inj ho
        exact gstep_skip rfl (wanted_at 15 10 true _ false rfl (by kernel_rfl) (show 15 < 28 by decide) (hF 10 (by kernel_rfl)) rfl) ⟨_, rfl, rfl, rfl⟩
      | 22, ho =>
        obtain rfl := Option.some.inj ho
        exact gstep_pick rfl (wanted0 rfl) _ _ _ rfl false (eval_at 15 10 _ (by kernel_rfl) (show 15 < 28 by decide) (hF 10 (by kernel_rfl))) _ (by rw [if_neg (by decide)]; exact rfl) ⟨_, rfl, rfl, rfl⟩
      | 23, ho =>
        obtain rfl := Option.some.inj ho
        exact gstep_assign rfl (wanted0 rfl) _ rfl _ (eval_at 27 22 _ (by kernel_rfl) (show 27 < 28 by decide) (hF 22 (by kernel_rfl))) ⟨_, rfl, rfl, rfl⟩
      | n + 24, ho => simp at ho
    · intro x w6 hR hF
      have hl : x 23 = .bool false := hF 23 (by decide)
      simp only [putAll, hl, Act.put, List.setIfInBounds_toArray, List.set_cons_succ, List.set_cons_zero]
      go_wp2_with fail
      go_ret
      exact ⟨by rw [HV.out]; rfl, by rw [← hR]; exact (Below.refl _ w).drew⟩
end
section
open Go.RowKit
set_option linter.unusedVariables false
set_option maxRecDepth 100000

set_option maxHeartbeats 4000000 in
theorem pfirst_any {w : World} {b B bt bd : Nat} {L : Lg} (h : LogB w b B bt bd L) :
    Calls Tryd.prog 52 #[.pointer (some ⟨b, 0, none⟩)] w fun e w' => e = .returned (.int .i64 L.first) ∧ w = w' := by
  obtain ⟨⟨_, _, _, c3, _, _, _⟩, _⟩ := h.cells
  go_enter Tryd.func52, Tryd.ntmps52
  go_wp2_with fail
  go_ret
  exact ⟨rfl, rfl⟩
set_option maxHeartbeats 4000000 in
theorem pfirst_nil (w : World) : Calls Tryd.prog 52 #[.pointer none] w fun e w' => e = .returned (.int .i64 1) ∧ w = w' := by
  go_enter Tryd.func52, Tryd.ntmps52
  go_wp2_with fail
  go_ret
  exact ⟨rfl, rfl⟩
set_option maxHeartbeats 4000000 in
theorem plast_any {w : World} {b B bt bd : Nat} {L : Lg} (h : LogB w b B bt bd L) (hb : -4611686018427387904 ≤ L.first ∧ L.first ≤ 4611686018427387904) (hc : 0 ≤ L.count ∧ L.count ≤ 4611686018427387) :
    Calls Tryd.prog 27 #[.pointer (some ⟨b, 0, none⟩)] w fun e w' => e = .returned (.int .i64 (L.first + L.count - 1)) ∧ Below w.heap.size w w' := by
  obtain ⟨⟨_, _, _, c3, c4, _, _⟩, _⟩ := h.cells
  have e1 : IntKind.i64.wrap (L.first + L.count) = L.first + L.count := IntWalk.i64_in _ (by omega)
  have e2 : IntKind.i64.wrap (L.first + L.count - 1) = L.first + L.count - 1 := IntWalk.i64_in _ (by omega)
  go_enter Tryd.func27, Tryd.ntmps27
  go_wp2_with fail
  go_region_held3 (fun w' => w'.cell? ⟨b, 3, none⟩ = some (.int .i64 L.first) ∧ w'.cell? ⟨b, 4, none⟩ = some (.int .i64 L.count)) (first | (with_reducible assumption) | go_keep) (fail)
  all_goals
    go_wp2_with fail
    go_ret
    exact ⟨rfl, (Below.refl _ w).drew⟩
set_option maxHeartbeats 4000000 in
theorem plast_nil (w : World) : Calls Tryd.prog 27 #[.pointer none] w fun e w' => e = .returned (.int .i64 0) ∧ w = w' := by
  go_enter Tryd.func27, Tryd.ntmps27
  go_wp2_with fail
  go_ret
  exact ⟨rfl, rfl⟩
set_option maxHeartbeats 4000000 in
theorem proom_any {w : World} {b B bt bd : Nat} {L : Lg} (h : LogB w b B bt bd L) (hs : 0 ≤ L.size ∧ L.size ≤ 4611686018427387904) (hc : 0 ≤ L.count ∧ L.count ≤ 4611686018427387904) :
    Calls Tryd.prog 53 #[.pointer (some ⟨b, 0, none⟩)] w fun e w' => e = .returned (.int .i64 (L.size - L.count)) ∧ Below w.heap.size w w' := by
  obtain ⟨⟨_, _, c2, _, c4, _, _⟩, _⟩ := h.cells
  have e1 : IntKind.i64.wrap (L.size - L.count) = L.size - L.count := IntWalk.i64_in _ (by omega)
  go_enter Tryd.func53, Tryd.ntmps53
  go_wp2_with fail
  go_region_held3 (fun w' => w'.cell? ⟨b, 2, none⟩ = some (.int .i64 L.size) ∧ w'.cell? ⟨b, 4, none⟩ = some (.int .i64 L.count)) (first | (with_reducible assumption) | go_keep) (fail)
  all_goals
    go_wp2_with fail
    go_ret
    exact ⟨rfl, (Below.refl _ w).drew⟩
set_option maxHeartbeats 4000000 in
theorem proom_nil (w : World) : Calls Tryd.prog 53 #[.pointer none] w fun e w' => e = .returned (.int .i64 0) ∧ w = w' := by
  go_enter Tryd.func53, Tryd.ntmps53
  go_wp2_with fail
  go_ret
  exact ⟨rfl, rfl⟩
set_option maxHeartbeats 4000000 in
theorem preach_any {w : World} {b B bt bd : Nat} {L : Lg} (h : LogB w b B bt bd L) (hs : 0 ≤ L.size ∧ L.size ≤ 4611686018427387) (hf : 0 < L.first ∧ L.first ≤ 4611686018427387904) :
    Calls Tryd.prog 49 #[.pointer (some ⟨b, 0, none⟩)] w fun e w' => e = .returned (.int .i64 L.size) ∧ Below w.heap.size w w' := by
  obtain ⟨⟨_, _, c2, c3, _, _, _⟩, _⟩ := h.cells
  have e1 : IntKind.i64.wrap (9223372036854775807 - L.first) = 9223372036854775807 - L.first := IntWalk.i64_in _ (by omega)
  have e2 : IntKind.i64.wrap (9223372036854775807 - L.first + 1) = 9223372036854775807 - L.first + 1 := IntWalk.i64_in _ (by omega)
  have e3 : min L.size (9223372036854775807 - L.first + 1) = L.size := by omega
  go_enter Tryd.func49, Tryd.ntmps49
  go_wp2_with fail
  go_region_held3 (fun w' => w'.cell? ⟨b, 2, none⟩ = some (.int .i64 L.size) ∧ w'.cell? ⟨b, 3, none⟩ = some (.int .i64 L.first)) (first | (with_reducible assumption) | go_keep) (fail)
  all_goals
    go_wp2_with fail
    go_ret
    exact ⟨by first | rfl | (rw [e3]) | (simp; omega), (Below.refl _ w).drew⟩
/-- The block of an entry (kind 2), of its mark (kind 3). -/
def Lg.blk (L : Lg) (k i : Int) : Int := L.base + i % L.size + (if k = 3 then L.size else 0)
set_option maxHeartbeats 4000000 in
theorem pblock_any {w : World} {b B bt bd : Nat} {L : Lg} (k i : Int) (h : LogB w b B bt bd L) (hs : 1 ≤ L.size ∧ L.size ≤ 1000000) (hb : 0 ≤ L.base ∧ L.base ≤ 1000000) (hi : 0 ≤ i) :
    Calls Tryd.prog 43 #[.pointer (some ⟨b, 0, none⟩), .int .i64 k, .int .i64 i] w fun e w' => e = .returned (.int .i64 (L.blk k i)) ∧ Below w.heap.size w w' := by
  obtain ⟨⟨_, c1, c2, _, _, _, _⟩, _⟩ := h.cells
  have hm0 : 0 ≤ i % L.size := Int.emod_nonneg _ (by omega)
  have hm1 : i % L.size < L.size := Int.emod_lt_of_pos _ (by omega)
  obtain ⟨r, hr⟩ : ∃ r, i % L.size = r := ⟨_, rfl⟩
  have htm : i.tmod L.size = r := by rw [Int.tmod_eq_emod_of_nonneg hi]; exact hr
  have hz : ¬ L.size = 0 := by omega
  have ez : (L.size == 0) = false := by simpa using hz
  rw [hr] at hm0 hm1
  have hrw : IntKind.i64.wrap r = r := IntWalk.i64_in _ (by omega)
  have e1 : IntKind.i64.wrap (L.base + r) = L.base + r := IntWalk.i64_in _ (by omega)
  have e2 : IntKind.i64.wrap (L.base + r + L.size) = L.base + r + L.size := IntWalk.i64_in _ (by omega)
  have HB : Hid (L.blk k i = L.base + r + (if k = 3 then L.size else 0)) := by show L.blk k i = _; unfold Lg.blk; rw [hr]
  clear hr
  by_cases h3 : k = 3
  · rw [if_pos h3] at HB
    subst h3
    go_enter Tryd.func43, Tryd.ntmps43
    go_wp2_with fail
    go_region_held3 (fun w' => w'.cell? ⟨b, 1, none⟩ = some (.int .i64 L.base) ∧ w'.cell? ⟨b, 2, none⟩ = some (.int .i64 L.size)) (first | (with_reducible assumption) | go_keep) (fail)
    all_goals
      go_wp2_with fail
      go_ret
      exact ⟨by rw [HB.out]; rfl, (Below.refl _ w).drew⟩
  · rw [if_neg h3] at HB
    have ek : (k == 3) = false := by simpa using h3
    go_enter Tryd.func43, Tryd.ntmps43
    go_wp2_with fail
    go_region_held3 (fun w' => w'.cell? ⟨b, 1, none⟩ = some (.int .i64 L.base) ∧ w'.cell? ⟨b, 2, none⟩ = some (.int .i64 L.size)) (first | (with_reducible assumption) | go_keep) (fail)
    all_goals
      go_wp2_with fail
      go_ret
      exact ⟨by rw [HB.out, Int.add_zero]; rfl, (Below.refl _ w).drew⟩
/-- Does a record hold the entry with an index? -/
def Rc.isE (r : Rc) (i : Int) : Bool := decide (r.kind = 2 ∧ r.index = i)
set_option maxHeartbeats 4000000 in
theorem pise_any (r : Rc) (i : Int) (w : World) :
    Calls Tryd.prog 44 #[recV r, .int .i64 i] w fun e w' => e = .returned (.bool (r.isE i)) ∧ Below w.heap.size w w' := by
  have n0 := RecB.new w r
  have b0 := (Below.refl _ w).alloc (Nat.le_refl _) (.cells #[.int .i64 r.kind, .int .i64 r.index, .int .i64 r.term, .string r.data] 72)
  obtain ⟨⟨c0, c1, c2, c3⟩, _⟩ := n0.cells
  unfold recV
  by_cases hk : r.kind = 2
  · by_cases hi : r.index = i
    · have HB : Hid (r.isE i = true) := by show r.isE i = true; simp [Rc.isE, hk, hi]
      have e1 : (r.kind == 2) = true := by simpa using hk
      have e2 : (r.index == i) = true := by simpa using hi
      clear hk hi
      go_enter Tryd.func44, Tryd.ntmps44
      go_wp2_with fail
      go_ret
      exact ⟨by rw [HB.out]; rfl, b0⟩
    · have HB : Hid (r.isE i = false) := by show r.isE i = false; simp [Rc.isE, hi]
      have e1 : (r.kind == 2) = true := by simpa using hk
      have e2 : (r.index == i) = false := by simpa using hi
      clear hk hi
      go_enter Tryd.func44, Tryd.ntmps44
      go_wp2_with fail
      go_ret
      exact ⟨by rw [HB.out]; rfl, b0⟩
  · have HB : Hid (r.isE i = false) := by show r.isE i = false; simp [Rc.isE, hk]
    have e1 : (r.kind == 2) = false := by simpa using hk
    clear hk
    go_enter Tryd.func44, Tryd.ntmps44
    go_wp2_with fail
    go_ret
    exact ⟨by rw [HB.out]; rfl, b0⟩
/-- The mark of an entry, and its block. -/
def markR (i t : Int) : Rc := ⟨3, i, t, ⟨#[]⟩⟩
def entR (x : En) : Rc := ⟨2, x.index, x.term, x.data⟩
theorem mret (A : Act) (W : World) (b : Nat) (r : Rc) (Q : Ending → World → Prop) (h2 : A.tmps.getD 4 undef = .pointer (some ⟨b, 0, none⟩)) (hd : A.defers = []) (hr : RecB W b r)
    (hq : Q (.returned (recV r)) W) : bodyPost Tryd.prog Tryd.f71 Q Exit.ret A W := by
  obtain ⟨⟨c0, c1, c2, c3⟩, _⟩ := hr.cells
  have e2 : A.tmps[4]?.getD undef = .pointer (some ⟨b, 0, none⟩) := by simpa using h2
  exact bodyPost_ret (v := recV r) (by simp [results, Tryd.results71, go_sem, recV, e2, c0, c1, c2, c3]) hd hq
set_option maxHeartbeats 4000000 in
theorem pmark_any (i t : Int) (w : World) :
    Calls Tryd.prog 71 #[.int .i64 i, .int .i64 t] w fun e w' => e = .returned (recV (markR i t)) ∧ Below w.heap.size w w' := by
  have n0 := RecB.new w rc0
  have b0 := (Below.refl _ w).alloc (Nat.le_refl _) (.cells #[.int .i64 rc0.kind, .int .i64 rc0.index, .int .i64 rc0.term, .string rc0.data] 72)
  unfold rc0 at n0 b0
  simp only at n0 b0
  obtain ⟨⟨c0, c1, c2, c3⟩, f0, f1, f2, f3⟩ := n0.cells
  go_enter Tryd.func71, Tryd.ntmps71
  go_wp2_with fail
  refine mret _ _ w.heap.size (markR i t) _ rfl rfl ?_ ⟨rfl, ?_⟩
  · exact RecB.new w (markR i t)
  · exact (Below.refl _ w).alloc (Nat.le_refl _) _
/-- An entry's block of memory: three cells. -/
def EnB (w : World) (b : Nat) (x : En) : Prop := w.heap[b]? = some (.cells #[.int .i64 x.index, .int .i64 x.term, .string x.data] 60 (0, 0))
theorem EnB.cells {w : World} {b : Nat} {x : En} (h : EnB w b x) :
    (w.cell? ⟨b, 0, none⟩ = some (.int .i64 x.index) ∧ w.cell? ⟨b, 1, none⟩ = some (.int .i64 x.term) ∧ w.cell? ⟨b, 2, none⟩ = some (.string x.data)) ∧
    w.frozen? ⟨b, 0, none⟩ = false ∧ w.frozen? ⟨b, 1, none⟩ = false ∧ w.frozen? ⟨b, 2, none⟩ = false := ⟨⟨cell_of h rfl, cell_of h rfl, cell_of h rfl⟩, free_of h, free_of h, free_of h⟩
theorem EnB.lt {w : World} {b : Nat} {x : En} (h : EnB w b x) : b < w.heap.size := lt_of_block h
theorem EnB.below {w w' : World} {b : Nat} {x : En} (h : EnB w b x) (k : Below w.heap.size w w') : EnB w' b x := (k.block b h.lt).trans h
theorem EnB.keep {E : Nat → Prop} {w w' : World} {b : Nat} {x : En} (h : EnB w b x) (k : Kept E w w') (hb : E b) : EnB w' b x := (k b hb).trans h
theorem EnB.new (w : World) (x : En) : EnB (w.alloc (.cells #[.int .i64 x.index, .int .i64 x.term, .string x.data] 60)) w.heap.size x := heap_alloc_new w _
/-- May an entry be put? -/
def En.ok (x : En) : Bool := decide (1 ≤ x.term ∧ x.term ≤ 1099511627776 ∧ x.data.size ≤ 488)
set_option maxHeartbeats 4000000 in
theorem pvalid_any (x : En) (w : World) (hm : x.data.size ≤ maxLen) :
    Calls Tryd.prog 50 #[enV x] w fun e w' => e = .returned (.bool x.ok) ∧ Below w.heap.size w w' := by
  have n0 := EnB.new w x
  have b0 := (Below.refl _ w).alloc (Nat.le_refl _) (.cells #[.int .i64 x.index, .int .i64 x.term, .string x.data] 60)
  obtain ⟨⟨c0, c1, c2⟩, _⟩ := n0.cells
  unfold maxLen at hm
  unfold enV
  obtain ⟨Q, hQ⟩ : ∃ Q, x.ok = Q := ⟨_, rfl⟩
  have HQ := Lib.hid hQ
  rw [hQ]
  clear hQ
  by_cases h1 : 1 ≤ x.term
  · by_cases h2 : x.term ≤ 1099511627776
    · by_cases h3 : x.data.size ≤ 488
      · have HB : Hid (Q = true) := by show Q = true; rw [← HQ.out]; simp [En.ok, h1, h2, h3]
        have e3 : decide ((x.data.size : Int) ≤ 488) = true := by simp; omega
        go_enter Tryd.func50, Tryd.ntmps50
        go_wp2_with fail
        go_ret
        exact ⟨by rw [HB.out]; rfl, b0⟩
      · have HB : Hid (Q = false) := by show Q = false; rw [← HQ.out]; simp [En.ok, h3]
        have e3 : decide ((x.data.size : Int) ≤ 488) = false := by simp; omega
        go_enter Tryd.func50, Tryd.ntmps50
        go_wp2_with fail
        go_ret
        exact ⟨by rw [HB.out]; rfl, b0⟩
    · have HB : Hid (Q = false) := by show Q = false; rw [← HQ.out]; simp [En.ok, h2]
      have e2 : decide (x.term ≤ 1099511627776) = false := by simpa using h2
      go_enter Tryd.func50, Tryd.ntmps50
      go_wp2_with fail
      go_ret
      exact ⟨by rw [HB.out]; rfl, b0⟩
  · have HB : Hid (Q = false) := by show Q = false; rw [← HQ.out]; simp [En.ok, h1]
    have e1 : decide (1 ≤ x.term) = false := by simpa using h1
    go_enter Tryd.func50, Tryd.ntmps50
    go_wp2_with fail
    go_ret
    exact ⟨by rw [HB.out]; rfl, b0⟩
theorem eret (A : Act) (W : World) (b : Nat) (r : Rc) (Q : Ending → World → Prop) (h2 : A.tmps.getD 2 undef = .pointer (some ⟨b, 0, none⟩)) (hd : A.defers = []) (hr : RecB W b r)
    (hq : Q (.returned (recV r)) W) : bodyPost Tryd.prog Tryd.f73 Q Exit.ret A W := by
  obtain ⟨⟨c0, c1, c2, c3⟩, _⟩ := hr.cells
  have e2 : A.tmps[2]?.getD undef = .pointer (some ⟨b, 0, none⟩) := by simpa using h2
  exact bodyPost_ret (v := recV r) (by simp [results, Tryd.results73, go_sem, recV, e2, c0, c1, c2, c3]) hd hq
set_option maxHeartbeats 4000000 in
theorem prec_any (x : En) (w : World) :
    Calls Tryd.prog 73 #[enV x] w fun e w' => e = .returned (recV (entR x)) ∧ Below w.heap.size w w' := by
  have n0 := EnB.new w x
  have b0 := (Below.refl _ w).alloc (Nat.le_refl _) (.cells #[.int .i64 x.index, .int .i64 x.term, .string x.data] 60)
  have b1 := (Below.refl (w.alloc (.cells #[.int .i64 x.index, .int .i64 x.term, .string x.data] 60)).heap.size _).alloc (Nat.le_refl _) (.cells #[.int .i64 0, .int .i64 0, .int .i64 0, .string ⟨#[]⟩] 72)
  have n1 := n0.below b1
  have r1 := RecB.new (w.alloc (.cells #[.int .i64 x.index, .int .i64 x.term, .string x.data] 60)) ⟨0, 0, 0, ⟨#[]⟩⟩
  rw [World.size_alloc] at r1
  simp only at r1
  have B1 := b0.trans (b1.mono b0.size)
  obtain ⟨⟨c0, c1, c2⟩, _⟩ := n1.cells
  obtain ⟨⟨d0, d1, d2, d3⟩, f0, f1, f2, f3⟩ := r1.cells
  unfold enV
  go_enter Tryd.func73, Tryd.ntmps73
  go_wp2_with fail
  have r2 := RecB.new (w.alloc (.cells #[.int .i64 x.index, .int .i64 x.term, .string x.data] 60)) (entR x)
  rw [World.size_alloc] at r2
  have b2 := (Below.refl (w.alloc (.cells #[.int .i64 x.index, .int .i64 x.term, .string x.data] 60)).heap.size _).alloc (Nat.le_refl _) (.cells #[.int .i64 2, .int .i64 x.index, .int .i64 x.term, .string x.data] 72)
  exact eret _ _ (w.heap.size + 1) (entR x) _ rfl rfl r2 ⟨rfl, b0.trans (b2.mono b0.size)⟩
end
section
open Go.RowKit
set_option linter.unusedVariables false
set_option maxRecDepth 100000

/-- A cell: a record and its state. -/
def celV (c : Rc × Int) : Value := .agg #[.int .i64 c.1.kind, .int .i64 c.1.index, .int .i64 c.1.term, .string c.1.data, .int .i64 c.2]
def CelB (w : World) (b : Nat) (c : Rc × Int) : Prop := w.heap[b]? = some (.cells #[.int .i64 c.1.kind, .int .i64 c.1.index, .int .i64 c.1.term, .string c.1.data, .int .i64 c.2] 125 (0, 0))
section
variable {w w' : World} {b : Nat} {c : Rc × Int}
theorem CelB.cells (h : CelB w b c) :
    (w.cell? ⟨b, 0, none⟩ = some (.int .i64 c.1.kind) ∧ w.cell? ⟨b, 1, none⟩ = some (.int .i64 c.1.index) ∧ w.cell? ⟨b, 2, none⟩ = some (.int .i64 c.1.term) ∧ w.cell? ⟨b, 3, none⟩ = some (.string c.1.data) ∧ w.cell? ⟨b, 4, none⟩ = some (.int .i64 c.2)) ∧
    w.frozen? ⟨b, 0, none⟩ = false ∧ w.frozen? ⟨b, 1, none⟩ = false ∧ w.frozen? ⟨b, 2, none⟩ = false ∧ w.frozen? ⟨b, 3, none⟩ = false ∧ w.frozen? ⟨b, 4, none⟩ = false :=
  ⟨⟨cell_of h rfl, cell_of h rfl, cell_of h rfl, cell_of h rfl, cell_of h rfl⟩, free_of h, free_of h, free_of h, free_of h, free_of h⟩
theorem CelB.lt (h : CelB w b c) : b < w.heap.size := lt_of_block h
theorem CelB.below (h : CelB w b c) (k : Below w.heap.size w w') : CelB w' b c := (k.block b h.lt).trans h
theorem CelB.new (w : World) (c : Rc × Int) : CelB (w.alloc (.cells #[.int .i64 c.1.kind, .int .i64 c.1.index, .int .i64 c.1.term, .string c.1.data, .int .i64 c.2] 125)) w.heap.size c := heap_alloc_new w _
def setCel (W : World) (b : Nat) (c : Rc × Int) : World :=
  ((((W.setCell ⟨b, 0, none⟩ (.int .i64 c.1.kind)).setCell ⟨b, 1, none⟩ (.int .i64 c.1.index)).setCell ⟨b, 2, none⟩ (.int .i64 c.1.term)).setCell ⟨b, 3, none⟩ (.string c.1.data)).setCell ⟨b, 4, none⟩ (.int .i64 c.2)
theorem CelB.set {c0 : Rc × Int} (h : CelB w b c0) (c : Rc × Int) : CelB (setCel w b c) b c :=
  block_setCell (i := 4) (u := .int .i64 c.2) (block_setCell (i := 3) (u := .string c.1.data) (block_setCell (i := 2) (u := .int .i64 c.1.term) (block_setCell (i := 1) (u := .int .i64 c.1.index) (block_setCell (i := 0) (u := .int .i64 c.1.kind) h))))
end
theorem below_cel {B : Nat} {a W : World} {b : Nat} (k : Below B a W) (hb : B ≤ b) (c : Rc × Int) : Below B a (setCel W b c) :=
  ((((k.setCell (p := ⟨b, 0, none⟩) hb _).setCell (p := ⟨b, 1, none⟩) hb _).setCell (p := ⟨b, 2, none⟩) hb _).setCell (p := ⟨b, 3, none⟩) hb _).setCell (p := ⟨b, 4, none⟩) hb _
def cel0 : Rc × Int := (rc0, 0)
open Classical in
/-- What readsAs answers: gone 0, good 1, hurt 2, unknown 3. -/
noncomputable def readsF (i : Int) (e m : Rc × Int) : Int := if e.1.isE i = true then 1 else if e.2 ≠ 2 then 0 else if m.1 = markR i m.1.term then 2 else if m.2 = 2 then 3 else 0
set_option maxHeartbeats 4000000 in
theorem preads_any (i : Int) (c m : Rc × Int) (w : World) :
    Calls Tryd.prog 70 #[.int .i64 i, celV c, celV m] w fun e w' => e = .returned (.int .i64 (readsF i c m)) ∧ Below w.heap.size w w' := by
  have b0 := (Below.refl _ w).alloc (Nat.le_refl _) (.cells #[.int .i64 c.1.kind, .int .i64 c.1.index, .int .i64 c.1.term, .string c.1.data, .int .i64 c.2] 125)
  have b1 := (Below.refl (w.alloc (.cells #[.int .i64 c.1.kind, .int .i64 c.1.index, .int .i64 c.1.term, .string c.1.data, .int .i64 c.2] 125)).heap.size _).alloc (Nat.le_refl _) (.cells #[.int .i64 m.1.kind, .int .i64 m.1.index, .int .i64 m.1.term, .string m.1.data, .int .i64 m.2] 125)
  have n0 := (CelB.new w c).below b1
  have m0 := CelB.new (w.alloc (.cells #[.int .i64 c.1.kind, .int .i64 c.1.index, .int .i64 c.1.term, .string c.1.data, .int .i64 c.2] 125)) m
  rw [World.size_alloc] at m0
  have B0 := b0.trans (b1.mono b0.size)
  have HI := Lib.hid (fun (W : World) => pise_any c.1 i W)
  have HM := Lib.hid (fun (W : World) => pmark_any i m.1.term W)
  obtain ⟨BQ, hBQ⟩ : ∃ BQ : Bool, BQ = true ↔ m.1 = markR i m.1.term := ⟨@decide (m.1 = markR i m.1.term) (Classical.propDecidable _), by simp⟩
  have heq := eq_rec m.1 (markR i m.1.term) BQ hBQ
  have HV : Hid (readsF i c m = if c.1.isE i = true then 1 else if c.2 ≠ 2 then 0 else if BQ = true then 2 else if m.2 = 2 then 3 else 0) := by
    show readsF i c m = _
    have e : ∀ x y : Int, (@ite Int (m.1 = markR i m.1.term) (Classical.propDecidable _) x y) = if BQ = true then x else y := fun x y => (Classical.em (m.1 = markR i m.1.term)).elim (fun h => by rw [if_pos h, if_pos (hBQ.2 h)]) (fun h => by rw [if_neg h, if_neg (fun e => h (hBQ.1 e))])
    unfold readsF
    rw [e]
  generalize c.1.isE i = IE at HI HV
  clear b0 b1 hBQ
  unfold recV markR at *
  simp only at heq HM
  obtain ⟨⟨c0, c1, c2, c3, c4⟩, _⟩ := n0.cells
  unfold celV
  go_enter Tryd.func70, Tryd.ntmps70
  go_wp2_with fail
  refine (HI.out _).mono ?_
  rintro e w1 ⟨rfl, hb⟩
  have N1 := n0.below hb
  have M1 := m0.below hb
  have B1 := B0.trans (hb.mono B0.size)
  clear hb n0 m0 B0 HI c0 c1 c2 c3 c4
  cases IE with
  | true =>
    go_wp2_with fail
    go_ret
    exact ⟨by show Ending.returned (.int .i64 1) = _; rw [HV.out]; simp, B1⟩
  | false =>
    obtain ⟨⟨c0, c1, c2, c3, c4⟩, _⟩ := N1.cells
    by_cases hs : c.2 = 2
    · have e1 : (c.2 == 2) = true := by simpa using hs
      obtain ⟨⟨d0, d1, d2, d3, d4⟩, _⟩ := M1.cells
      have M1d : CelB w1.drew (w.heap.size + 1) m := M1
      have B1d := B1.drew
      go_wp2_with fail
      go_region_held3 (fun w' => w'.cell? ⟨w.heap.size + 1, 0, none⟩ = some (.int .i64 m.1.kind) ∧ w'.cell? ⟨w.heap.size + 1, 1, none⟩ = some (.int .i64 m.1.index) ∧ w'.cell? ⟨w.heap.size + 1, 2, none⟩ = some (.int .i64 m.1.term) ∧ w'.cell? ⟨w.heap.size + 1, 3, none⟩ = some (.string m.1.data)) (first | (with_reducible assumption) | (refine ⟨?_, ?_, ?_, ?_⟩ <;> with_reducible assumption) | go_keep)
        (first | (go_at_call 71; refine (HM.out _).mono ?_; rintro e w2 ⟨rfl, hb2⟩; have M2 := M1d.below hb2; have B2 := B1d.trans (hb2.mono B1d.size); obtain ⟨⟨g0, g1, g2, g3, g4⟩, _⟩ := M2.cells))
      all_goals
        cases BQ with
        | true =>
          go_wp2_with fail
          go_ret
          exact ⟨by show Ending.returned (.int .i64 2) = _; rw [HV.out]; simp [hs], B2⟩
        | false =>
          by_cases hm : m.2 = 2
          · have e2 : (m.2 == 2) = true := by simpa using hm
            go_wp2_with fail
            go_ret
            exact ⟨by show Ending.returned (.int .i64 3) = _; rw [HV.out]; simp [hs, hm], B2⟩
          · have e2 : (m.2 == 2) = false := by simpa using hm
            go_wp2_with fail
            go_ret
            exact ⟨by show Ending.returned (.int .i64 0) = _; rw [HV.out]; simp [hs, hm], B2⟩
    · have e1 : (c.2 == 2) = false := by simpa using hs
      go_wp2_with fail
      go_ret
      exact ⟨by show Ending.returned (.int .i64 0) = _; rw [HV.out]; simp [hs], B1⟩
end
end Go.Proofs.YtigebaaldikeaaaDoor
