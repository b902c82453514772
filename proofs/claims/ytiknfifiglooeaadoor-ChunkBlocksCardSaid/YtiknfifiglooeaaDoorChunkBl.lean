/- Open where there is no room, and Put of a nil store. No conditions beyond those in each statement. -/
import Derived.Test.YtiknfifiglooeaaDoorChunkHo
namespace Go.Proofs.YtiknfifiglooeaaDoor
open Go Go.RowKit Go.Proofs.Tryd
set_option linter.unusedVariables false
set_option maxRecDepth 100000

theorem run_eqCsN (W : World) (s1 s2 : Operand) : (do eqGuard .eql 76 s1 s2 (.pointer none) (.pointer none); binOp .eql 76 (.pointer none) (.pointer none) : Sem Value).run Tryd.prog W = .ok (.bool true) W := by
  go_simp
theorem copen_neg {w : World} {B : Nat} (base : Int) (hb : base < 0) :
    Calls Tryd.prog 34 #[.pointer (some ⟨B, 0, none⟩), .int .i64 base] w fun e w' => e = .returned (.tuple #[.pointer none, .int .i64 1]) ∧ w = w' := by
  have h1 : decide (base < 0) = true := decide_eq_true hb
  go_enter Tryd.func34, Tryd.ntmps34
  go_wp2_with fail
  exact bodyPost_ret (v := .tuple #[.pointer none, .int .i64 1]) (by simp [results, Tryd.results34, go_sem]) rfl ⟨rfl, rfl⟩
theorem copen_far {m : Nat} {E : Nat → Prop} {w : World} {B : Nat} {D : Dv} (base : Int) (hd : DevW m E w B D) (hb : 0 ≤ base) (hroom : (D.bs.length : Int) < base + 132) (hbig : D.bs.length ≤ 1000000000) :
    Calls Tryd.prog 34 #[.pointer (some ⟨B, 0, none⟩), .int .i64 base] w fun e w' => e = .returned (.tuple #[.pointer none, .int .i64 1]) ∧ w = w' := by
  have HSZ : Hid (Calls Tryd.prog 67 #[.pointer (some ⟨B, 0, none⟩)] w fun e w' => e = .returned (.int .i64 D.bs.length) ∧ w = w') := by
    obtain ⟨S, hS, _⟩ := hd
    exact size_any hS
  obtain ⟨L, hL⟩ : ∃ L, L = (D.bs.length : Int) := ⟨_, rfl⟩
  have q1 : decide (base < (0 : Int)) = false := by simp; omega
  have q2 : decide (base > L - 132) = true := by simp; omega
  have q2' : decide (L - 132 < base) = true := by simp; omega
  have q3 : IntKind.i64.wrap (L - 132) = L - 132 := IntWalk.i64_in _ (by omega)
  rw [← hL] at HSZ
  clear hd hL hroom hb hbig
  go_enter Tryd.func34, Tryd.ntmps34
  go_wp2_with fail
  refine HSZ.out.mono ?_
  rintro e w1 ⟨rfl, rfl⟩
  go_wp2_with fail
  exact bodyPost_ret (v := .tuple #[.pointer none, .int .i64 1]) (by simp [results, Tryd.results34, go_sem]) rfl ⟨rfl, rfl⟩
set_option maxHeartbeats 2000000 in
theorem cput_nil (i t : Int) (s : ByteArray) (hs : s.size ≤ 100000000) (w : World) (hT : Tabs w) :
    Calls Tryd.prog 36 #[.pointer none, .int .i64 i, .int .i64 t, .string s] w fun e w' => e = .returned (.int .i64 1) ∧ Below w.heap.size w w' := by
  have HO := Lib.hid (cof_any i t s hs w hT)
  clear hT hs
  go_enter Tryd.func36, Tryd.ntmps36
  go_wp2_with fail
  refine HO.out.mono ?_
  rintro e w1 ⟨sv, rfl, hrow, hb1⟩
  obtain ⟨sa, sc, rfl⟩ := slice_of hrow
  have bA := (Below.refl w1.heap.size w1).alloc (Nat.le_refl _) (.cells #[.int .i64 i, .int .i64 t, .int .i64 (s.size : Int), .slice sa (sumsOf s).length sc] 67)
  have HB := Lib.hid (hb1.trans (bA.mono hb1.size))
  clear hrow hb1 bA HO
  unfold lsV ofL
  simp only
  go_upto_region 2 with fail
  generalize w1.alloc (.cells #[.int .i64 i, .int .i64 t, .int .i64 (s.size : Int), .slice sa (sumsOf s).length sc] 67) = w2 at HB ⊢
  refine wp_region_steps (atP [fun v _ => v = (.pointer none),
    fun v _ => v = (.bool true),
    fun v _ => v = (.bool true),
    fun v _ => v = undef,
    fun v _ => v = undef,
    fun v _ => v = undef,
    fun v _ => v = (.bool true),
    fun v _ => v = (.bool true),
    fun v _ => v = undef,
    fun v _ => v = undef,
    fun v _ => v = undef,
    fun v _ => v = undef,
    fun v _ => v = undef,
    fun v _ => v = undef,
    fun v _ => v = undef,
    fun v _ => v = undef,
    fun v _ => v = (.bool true)]) (fun w w' => Below w.heap.size w w') (by kernel_rfl) (by kernel_rfl) (by kernel_rfl) (Below.refl _ _) (fun i v w w' _ h1 h2 => atP_keep (R := fun w w' => Below w.heap.size w w') (atK1 (fun _ _ _ h _ => h) (atK1 (fun _ _ _ h _ => h) (atK1 (fun _ _ _ h _ => h) (atK1 (fun _ _ _ h _ => h) (atK1 (fun _ _ _ h _ => h) (atK1 (fun _ _ _ h _ => h) (atK1 (fun _ _ _ h _ => h) (atK1 (fun _ _ _ h _ => h) (atK1 (fun _ _ _ h _ => h) (atK1 (fun _ _ _ h _ => h) (atK1 (fun _ _ _ h _ => h) (atK1 (fun _ _ _ h _ => h) (atK1 (fun _ _ _ h _ => h) (atK1 (fun _ _ _ h _ => h) (atK1 (fun _ _ _ h _ => h) (atK1 (fun _ _ _ h _ => h) (atK1 (fun _ _ _ h _ => h) (atK0)))))))))))))))))) i h1 h2) (fun u v w h1 h2 => h1.trans (h2.mono h1.size)) ?_ ?_
  · intro q9 o ho x W1 hR hF
    match q9, ho with
    | 0, ho =>
      obtain rfl := Option.some.inj ho
      exact gstep_move rfl (wanted0 rfl) _ rfl _ (eval_of 0 _ (by kernel_rfl) rfl) ⟨_, rfl, rfl, Below.refl _ _⟩
    | 1, ho =>
      obtain rfl := Option.some.inj ho
      exact gstep_bin rfl (wanted0 rfl) _ _ _ _ _ rfl _ _ (eval_at 20 0 _ (by kernel_rfl) (show 20 < 94 by decide) (hF 0 (by kernel_rfl))) rfl _ (run_eqCsN W1 _ _) ⟨_, rfl, rfl, Below.refl _ _⟩
    | 2, ho =>
      obtain rfl := Option.some.inj ho
      exact gstep_move rfl (wanted0 rfl) _ rfl _ (eval_at 21 1 _ (by kernel_rfl) (show 21 < 94 by decide) (hF 1 (by kernel_rfl))) ⟨_, rfl, rfl, Below.refl _ _⟩
    | 3, ho =>
      obtain rfl := Option.some.inj ho
      exact gstep_skip rfl (wanted_at 22 2 false _ false rfl (by kernel_rfl) (show 22 < 94 by decide) (hF 2 (by kernel_rfl)) rfl) ⟨_, rfl, rfl, Below.refl _ _⟩
    | 4, ho =>
      obtain rfl := Option.some.inj ho
      exact gstep_skip rfl (wanted_at 22 2 false _ false rfl (by kernel_rfl) (show 22 < 94 by decide) (hF 2 (by kernel_rfl)) rfl) ⟨_, rfl, rfl, Below.refl _ _⟩
    | 5, ho =>
      obtain rfl := Option.some.inj ho
      exact gstep_skip rfl (wanted_at 22 2 false _ false rfl (by kernel_rfl) (show 22 < 94 by decide) (hF 2 (by kernel_rfl)) rfl) ⟨_, rfl, rfl, Below.refl _ _⟩
    | 6, ho =>
      obtain rfl := Option.some.inj ho
      exact gstep_pick rfl (wanted0 rfl) _ _ _ rfl true (eval_at 22 2 _ (by kernel_rfl) (show 22 < 94 by decide) (hF 2 (by kernel_rfl))) _ (by rw [if_pos rfl]; exact rfl) ⟨_, rfl, rfl, Below.refl _ _⟩
    | 7, ho =>
      obtain rfl := Option.some.inj ho
      exact gstep_move rfl (wanted0 rfl) _ rfl _ (eval_at 26 6 _ (by kernel_rfl) (show 26 < 94 by decide) (hF 6 (by kernel_rfl))) ⟨_, rfl, rfl, Below.refl _ _⟩
    | 8, ho =>
      obtain rfl := Option.some.inj ho
      exact gstep_skip rfl (wanted_at 27 7 false _ false rfl (by kernel_rfl) (show 27 < 94 by decide) (hF 7 (by kernel_rfl)) rfl) ⟨_, rfl, rfl, Below.refl _ _⟩
    | 9, ho =>
      obtain rfl := Option.some.inj ho
      exact gstep_skip rfl (wanted_at 27 7 false _ false rfl (by kernel_rfl) (show 27 < 94 by decide) (hF 7 (by kernel_rfl)) rfl) ⟨_, rfl, rfl, Below.refl _ _⟩
    | 10, ho =>
      obtain rfl := Option.some.inj ho
      exact gstep_skip rfl (wanted_at 27 7 false _ false rfl (by kernel_rfl) (show 27 < 94 by decide) (hF 7 (by kernel_rfl)) rfl) ⟨_, rfl, rfl, Below.refl _ _⟩
    | 11, ho =>
      obtain rfl := Option.some.inj ho
      exact gstep_skip rfl (wanted_at 27 7 false _ false rfl (by kernel_rfl) (show 27 < 94 by decide) (hF 7 (by kernel_rfl)) rfl) ⟨_, rfl, rfl, Below.refl _ _⟩
    | 12, ho =>
      obtain rfl := Option.some.inj ho
      exact gstep_skip rfl (wanted_at 27 7 false _ false rfl (by kernel_rfl) (show 27 < 94 by decide) (hF 7 (by kernel_rfl)) rfl) ⟨_, rfl, rfl, Below.refl _ _⟩
    | 13, ho =>
      obtain rfl := Option.some.inj ho
      exact gstep_skip rfl (wanted_at 27 7 false _ false rfl (by kernel_rfl) (show 27 < 94 by decide) (hF 7 (by kernel_rfl)) rfl) ⟨_, rfl, rfl, Below.refl _ _⟩
    | 14, ho =>
      obtain rfl := Option.some.inj ho
      exact gstep_skip rfl (wanted_at 27 7 false _ false rfl (by kernel_rfl) (show 27 < 94 by decide) (hF 7 (by kernel_rfl)) rfl) ⟨_, rfl, rfl, Below.refl _ _⟩
    | 15, ho =>
      obtain rfl := Option.some.inj ho
      exact gstep_skip rfl (wanted_at 27 7 false _ false rfl (by kernel_rfl) (show 27 < 94 by decide) (hF 7 (by kernel_rfl)) rfl) ⟨_, rfl, rfl, Below.refl _ _⟩
    | 16, ho =>
      obtain rfl := Option.some.inj ho
      exact gstep_pick rfl (wanted0 rfl) _ _ _ rfl true (eval_at 27 7 _ (by kernel_rfl) (show 27 < 94 by decide) (hF 7 (by kernel_rfl))) _ (by rw [if_pos rfl]; exact rfl) ⟨_, rfl, rfl, Below.refl _ _⟩
    | n + 17, ho => simp at ho
  · intro x w5 hR hF
    have h16 := hF 16 (by decide)
    simp only [putAll, Act.put, List.setIfInBounds_toArray, List.set_cons_succ, List.set_cons_zero]
    generalize x 16 = v16 at h16 ⊢
    have h16' : v16 = .bool true := h16
    subst h16'
    have B5 := HB.out.trans (((((Below.refl _ w2).drew).trans hR)).mono HB.out.size)
    clear hF h16 hR
    go_wp2_with fail
    go_ret
    exact ⟨rfl, B5⟩
end Go.Proofs.YtiknfifiglooeaaDoor
