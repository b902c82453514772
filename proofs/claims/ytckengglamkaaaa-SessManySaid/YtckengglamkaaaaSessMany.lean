/- SessMany: as many sessions as there may be, and one more; closed, there is room again; no condition on the input. -/
import Derived.Test.YtckengglamkaaaaSessHead
import Derived.Test.YtckengglamkaaaaSessAll
import Derived.Test.YtckengglamkaaaaRows
import Derived.ProofKit
import Derived.OpenShut
import Derived.ShutString
import Derived.ChangeOld
import Derived.Deep.DeepHandedRow
import Derived.Lib.LaidTab
import Derived.Stop.LaidErr
import Derived.Lay
namespace Go.Proofs.Ytckengglamkaaaa.sessMany
open Go.ChangeShapes Go.WideShapes Go.ChangeAt Go.RowKit
open Go.ChangeMaps (open_string shut_string)
set_option linter.unusedVariables false
set_option maxRecDepth 100000
theorem i64_and15 (n : Int) : bits .and .i64 n 15 = n % 16 := by
  have h127 : (BitVec.ofInt 64 15).toNat = 2 ^ 4 - 1 := by decide
  have key : (BitVec.ofInt 64 n &&& BitVec.ofInt 64 15).toNat = (n % ((2 ^ 64 : Nat) : Int)).toNat % 2 ^ 4 := by
    rw [BitVec.toNat_and, BitVec.toNat_ofInt, h127, Nat.and_two_pow_sub_one_eq_mod]
  show IntKind.i64.wrap ((BitVec.ofInt 64 n &&& BitVec.ofInt 64 15).toNat : Nat) = n % 16
  rw [key, IntKind.wrap_i64]
  omega
theorem i64_and7 (n : Int) : bits .and .i64 n 7 = n % 8 := by
  have h127 : (BitVec.ofInt 64 7).toNat = 2 ^ 3 - 1 := by decide
  have key : (BitVec.ofInt 64 n &&& BitVec.ofInt 64 7).toNat = (n % ((2 ^ 64 : Nat) : Int)).toNat % 2 ^ 3 := by
    rw [BitVec.toNat_and, BitVec.toNat_ofInt, h127, Nat.and_two_pow_sub_one_eq_mod]
  show IntKind.i64.wrap ((BitVec.ofInt 64 n &&& BitVec.ofInt 64 7).toNat : Nat) = n % 8
  rw [key, IntKind.wrap_i64]
  omega
/-- The sessions behind m that were opened. -/
def manyS (m : Nat) : Int → Option Ss := fun z => if 100 - (m : Int) ≤ z ∧ z ≤ 99 then some Ss.zero else none
theorem many0 : manyS 0 = fun _ => none := by
  funext z; unfold manyS; rw [if_neg (by omega)]
theorem many_open {j : Nat} (hj : j < 16) : openE (manyS j) j (100 - ((j : Int) + 1)) = 0 ∧ openT (manyS j) j (100 - ((j : Int) + 1)) = manyS (j + 1) ∧ openC (manyS j) j (100 - ((j : Int) + 1)) = j + 1 := by
  have h0 : manyS j (100 - ((j : Int) + 1)) = none := by unfold manyS; rw [if_neg (by omega)]
  have h1 : okN (100 - ((j : Int) + 1)) = true := by unfold okN; simp; omega
  have e : openE (manyS j) j (100 - ((j : Int) + 1)) = 0 := by
    unfold openE; rw [h1, h0]; simp; omega
  refine ⟨e, ?_, by unfold openC; rw [e]; rfl⟩
  unfold openT; rw [e, if_pos rfl]
  funext z; unfold updS manyS
  by_cases hz : z = 100 - ((j : Int) + 1)
  · rw [if_pos hz, if_pos (by omega)]
  · rw [if_neg hz]
    by_cases h2 : 100 - (j : Int) ≤ z ∧ z ≤ 99
    · rw [if_pos h2, if_pos (by omega)]
    · rw [if_neg h2, if_neg (by omega)]
theorem many_full {j : Nat} (hj : 16 ≤ j) (hj2 : j ≤ 50) : openE (manyS 16) 16 (100 - ((j : Int) + 1)) = 16 ∧ openT (manyS 16) 16 (100 - ((j : Int) + 1)) = manyS 16 ∧ openC (manyS 16) 16 (100 - ((j : Int) + 1)) = 16 := by
  have h0 : manyS 16 (100 - ((j : Int) + 1)) = none := by unfold manyS; rw [if_neg (by omega)]
  have h1 : okN (100 - ((j : Int) + 1)) = true := by unfold okN; simp; omega
  have e : openE (manyS 16) 16 (100 - ((j : Int) + 1)) = 16 := by
    unfold openE; rw [h1, h0]; simp
  exact ⟨e, by unfold openT; rw [e]; rfl, by unfold openC; rw [e]; rfl⟩
theorem many_close {m u : Nat} (hm : 10 ≤ m) (hm2 : m ≤ 16) (hu : u < 8) : (manyS m (99 - (u : Int))).isSome = true ∧ closeE (manyS m) (99 - (u : Int)) = 0 ∧ closeC (manyS m) m (99 - (u : Int)) = m - 1 ∧
    closeE (updS (manyS m) (99 - (u : Int)) none) (99 - (u : Int)) = 17 ∧ closeC (updS (manyS m) (99 - (u : Int)) none) (m - 1) (99 - (u : Int)) = m - 1 ∧
    openE (updS (updS (manyS m) (99 - (u : Int)) none) (99 - (u : Int)) none) (m - 1) 500 = 0 ∧ openC (updS (updS (manyS m) (99 - (u : Int)) none) (99 - (u : Int)) none) (m - 1) 500 = m := by
  have h0 : (manyS m (99 - (u : Int))).isSome = true := by unfold manyS; rw [if_pos (by omega)]; rfl
  have h1 : updS (updS (manyS m) (99 - (u : Int)) none) (99 - (u : Int)) none 500 = none := by
    rw [updS_other (by omega), updS_other (by omega)]; unfold manyS; rw [if_neg (by omega)]
  have h2 : openE (updS (updS (manyS m) (99 - (u : Int)) none) (99 - (u : Int)) none) (m - 1) 500 = 0 := by
    unfold openE; rw [h1, if_neg (by decide)]; simp; omega
  refine ⟨h0, by unfold closeE; rw [h0]; rfl, by unfold closeC; rw [h0]; rfl, by unfold closeE; rw [updS_same]; rfl, by unfold closeC; rw [updS_same]; rfl, h2, ?_⟩
  unfold openC; rw [h2, if_pos rfl]; omega
set_option maxHeartbeats 4000000 in
theorem walk (a0 a1 : Int) (w : World) (w0 : (Lit.int .i64 a0).wf = true) (w1 : (Lit.int .i64 a1).wf = true) :
    Calls Try.prog 7 #[.int .i64 a0, .int .i64 a1] w fun e w' => e = .returned (.bool true) ∧ Below w.heap.size w w' := by
  have HH := Lib.hid (head10_any w)
  clear w0 w1
  obtain ⟨m, hm16, hm⟩ : ∃ m : Nat, m < 16 ∧ bits .and .i64 a0 15 = (m : Int) := ⟨(a0 % 16).toNat, by omega, by rw [i64_and15]; omega⟩
  obtain ⟨u, hu8, hu⟩ : ∃ u : Nat, u < 8 ∧ bits .and .i64 a1 7 = (u : Int) := ⟨(a1 % 8).toNat, by omega, by rw [i64_and7]; omega⟩
  obtain ⟨N, hN, hN1, hN2⟩ : ∃ N : Nat, IntKind.i64.wrap (10 + (m : Int)) = (N : Int) ∧ 10 ≤ N ∧ N ≤ 25 := ⟨10 + m, by rw [IntWalk.i64_in _ (by omega)]; omega, by omega, by omega⟩
  clear hm16
  go_enter Try.func7, Try.ntmps7
  go_wp2_with fail
  refine HH.out.mono ?_
  rintro e w1 ⟨rfl, b1⟩
  have HN := Lib.hid (new_any w1)
  go_wp2_with fail
  refine HN.out.mono ?_
  rintro e w2 ⟨tb, mb, rfl, H2, b2, ht, hmb⟩
  replace b2 := b1.trans (b2.mono b1.size)
  have hmw : w.heap.size ≤ mb := Nat.le_trans b1.size hmb
  rw [← many0] at H2
  clear HN hm b1 ht hmb HH hN
  go_wp2_with fail
  go_loopw [6, 7] (fun iv _ wr => ∃ j : Nat, j ≤ N ∧ iv = .int .i64 ((j : Int) + 1) ∧ TbW wr tb mb j (min j 16) (manyS (min j 16)) ∧ Below w.heap.size w wr) (fun iv _ _ => N + 1 - (intOf iv).toNat)
  case atStart => exact ⟨0, by omega, rfl, H2, b2⟩
  case round =>
    obtain ⟨j, hj, rfl, HT, bk⟩ := hrel
    clear H2 b2
    by_cases hlt : j < N
    · have hlt2 : decide ((j : Int) + 1 ≤ (N : Int)) = true := by simp; omega
      have s1 : IntKind.i64.wrap ((j : Int) + 1 + 1) = (j : Int) + 1 + 1 := IntWalk.i64_in _ (by omega)
      have s2 : IntKind.i64.wrap (100 - ((j : Int) + 1)) = 100 - ((j : Int) + 1) := IntWalk.i64_in _ (by omega)
      by_cases h16 : j < 16
      · have d1 : decide ((j : Int) + 1 ≤ 16) = true := by simp; omega
        have d2 : decide ((16 : Int) < (j : Int) + 1) = false := by simp; omega
        rw [Nat.min_eq_left (by omega : j ≤ 16)] at HT
        have C := open_any tb mb j j (manyS j) (100 - ((j : Int) + 1)) wr HT (by unfold InR; omega) (by omega)
        rw [(many_open h16).1, (many_open h16).2.1, (many_open h16).2.2] at C
        have HC := Lib.hid C
        clear C HT
        go_wp2_with fail
        refine HC.out.mono ?_
        rintro e w3 ⟨rfl, L3⟩
        have b3 := bk.trans (left10_below L3 hmw bk.size)
        obtain ⟨H3, _⟩ := L3
        go_wp2_with fail
        go_roundw
        case rel => exact ⟨j + 1, by omega, by go_num, by rw [Nat.min_eq_left (by omega : j + 1 ≤ 16)]; exact H3, b3⟩
        case measure => simp [intOf]; omega
      · have d1 : decide ((j : Int) + 1 ≤ 16) = false := by simp; omega
        have d2 : decide ((16 : Int) < (j : Int) + 1) = true := by simp; omega
        rw [Nat.min_eq_right (by omega : 16 ≤ j)] at HT
        have C := open_any tb mb j 16 (manyS 16) (100 - ((j : Int) + 1)) wr HT (by unfold InR; omega) (by omega)
        rw [(many_full (by omega : 16 ≤ j) (by omega)).1, (many_full (by omega : 16 ≤ j) (by omega)).2.1, (many_full (by omega : 16 ≤ j) (by omega)).2.2] at C
        have HC := Lib.hid C
        clear C HT
        go_wp2_with fail
        refine HC.out.mono ?_
        rintro e w3 ⟨rfl, L3⟩
        have b3 := bk.trans (left10_below L3 hmw bk.size)
        obtain ⟨H3, _⟩ := L3
        go_wp2_with fail
        go_roundw
        case rel => exact ⟨j + 1, by omega, by go_num, by rw [Nat.min_eq_right (by omega : 16 ≤ j + 1)]; exact H3, b3⟩
        case measure => simp [intOf]; omega
    · obtain rfl : j = N := by omega
      have hlt2 : decide ((j : Int) + 1 ≤ (j : Int)) = false := by simp; omega
      obtain ⟨M, hM⟩ : ∃ M : Nat, M = min j 16 := ⟨_, rfl⟩
      rw [← hM] at HT
      have m1 : min (j : Int) 16 = (M : Int) := by omega
      have hM1 : 10 ≤ M := by omega
      have hM2 : M ≤ 16 := by omega
      obtain ⟨q1, q2, q3, q4, q5, q6, q7⟩ := many_close hM1 hM2 hu8
      have s3 : IntKind.i64.wrap (1 + (u : Int)) = 1 + (u : Int) := IntWalk.i64_in _ (by omega)
      have s4 : IntKind.i64.wrap (100 - (1 + (u : Int))) = 99 - (u : Int) := by rw [IntWalk.i64_in _ (by omega)]; omega
      have hidR : InR (99 - (u : Int)) := by unfold InR; omega
      have H1 := Lib.hid (fun W : World => has_any tb mb j M (manyS M) (99 - (u : Int)) W)
      rw [q1] at H1
      have H2 := Lib.hid (fun W : World => close_any tb mb j M (manyS M) (99 - (u : Int)) W)
      rw [q2, q3] at H2
      have H3 := Lib.hid (fun W : World => has_any tb mb j (M - 1) (updS (manyS M) (99 - (u : Int)) none) (99 - (u : Int)) W)
      rw [updS_same] at H3
      have H4 := Lib.hid (fun W : World => close_any tb mb j (M - 1) (updS (manyS M) (99 - (u : Int)) none) (99 - (u : Int)) W)
      rw [q4, q5] at H4
      have H5 := Lib.hid (fun W : World => open_any tb mb j (M - 1) (updS (updS (manyS M) (99 - (u : Int)) none) (99 - (u : Int)) none) 500 W)
      rw [q6, q7] at H5
      have H6 := Lib.hid (fun (W : World) (k : Nat) (T : Int → Option Ss) => all_any tb mb k M T W)
      have HT2 := Lib.hid HT
      have hi5 : InR 500 := by unfold InR; omega
      clear hM hlt HT hu8 q1 q2 q3 q4 q5 q6 q7
      go_wp2_with fail
      refine (H1.out _ HT2.out hidR).mono ?_
      rintro e w3 ⟨rfl, b3⟩
      have T3 := HT2.out.below b3
      replace b3 := bk.trans (b3.mono bk.size)
      go_wp2_with fail
      refine (H2.out _ T3 hidR).mono ?_
      rintro e w4 ⟨rfl, L4⟩
      have T4 := L4.1
      have b4 := b3.trans (left10_below L4 hmw b3.size)
      clear L4 T3 b3
      go_wp2_with fail
      refine (H3.out _ T4 hidR).mono ?_
      rintro e w5 ⟨rfl, b5⟩
      have T5 := T4.below b5
      replace b5 := b4.trans (b5.mono b4.size)
      clear T4 b4
      go_wp2_with fail
      refine (H4.out _ T5 hidR).mono ?_
      rintro e w6 ⟨rfl, L6⟩
      have T6 := L6.1
      have b6 := b5.trans (left10_below L6 hmw b5.size)
      clear L6 T5 b5
      go_wp2_with fail
      refine (H5.out _ T6 hi5 (by omega)).mono ?_
      rintro e w7 ⟨rfl, L7⟩
      have T7 := L7.1
      have b7 := b6.trans (left10_below L7 hmw b6.size)
      clear L7 T6 b6
      go_wp2_with fail
      refine (H6.out _ _ _ T7 (by omega)).mono ?_
      rintro e w8 ⟨v, zs, rfl, hI, hrow, b8⟩
      replace b8 := b7.trans (b8.mono b7.size)
      have hzl := hI.len
      obtain ⟨g2, cap2, rfl⟩ : ∃ g2 cap2, v = .slice g2 zs.length cap2 := by
        rcases hrow.2 with ⟨h1, h2⟩ | ⟨g2, cap2, cur, h1, _⟩
        · exact absurd h2 (by omega)
        · exact ⟨_, _, h1⟩
      rw [hzl]
      clear hrow T7 hI
      go_wp2_with fail
      go_ret
      exact ⟨by simp, b8⟩

theorem own : ownKnob Try.prog.godebug = none := by kernel_rfl
theorem laidOut : laidOutB Try.prog = true := by kernel_rfl

set_option maxRecDepth 100000 in
theorem lifted (os : Os) (started : os.Started) (H : Type) (enc : TypeId × Value → H) :
    ReturnsInHanded {} Try.checked os 7 .any (Rows.sessManySpec.pre6 enc Try.prog Try.f7 Rows.sessManyRow.domain false) (Rows.sessManySpec.post enc Try.prog Try.f7 false true false false) := by
  refine returnsInHanded_of_change (C := Try.checked) own started (by kernel_rfl) Try.func7
    (ChangeSpec.witness6 (enc := enc) (C := Try.checked) false ⟨#[], #[.int .i64 0, .int .i64 0], []⟩ 8 (by kernel_rfl) (by kernel_rfl) (by kernel_rfl) (by kernel_rfl)) ?_
  intro W base args ds gs before hval0 hW hcnd _
  have hval : ∀ (j : Nat) t v, Try.f7.params[j]? = some t → args[j]? = some v → Value.okWide Try.prog W .any base t v := hval0
  have hW' := hW
  obtain ⟨p, q, hA0, hV, rfl, hfz, hnd⟩ := hW
  have hA : DataW.TrodAll enc Try.prog W 0 (fun _ => true) true Try.f7.params.toList args.toList ds p := hA0
  rw [Try.params7] at hA hval
  obtain ⟨v0, vs0, d0, ds0, p0, q0, hargs, rfl, rfl, h0, r0⟩ := trodAll_cons hA
  obtain ⟨v1, vs1, d1, ds1, p1, q1, rfl, rfl, rfl, h1, r1⟩ := trodAll_cons r0
  obtain ⟨rfl, rfl, rfl⟩ := trodAll_nil r1
  obtain rfl : args = #[v0, v1] := by cases args; simp_all
  obtain ⟨rfl, rfl⟩ := trodVars_none hV
  obtain ⟨a0, rfl, rfl, rfl, w0⟩ := open_int Try.underlying3 (hval 0 3 v0 rfl rfl) h0
  obtain ⟨a1, rfl, rfl, rfl, w1⟩ := open_int Try.underlying3 (hval 1 3 v1 rfl rfl) h1
  clear hA0 hval0
  refine (walk a0 a1 W w0 w1).mono fun e W' ⟨he, bel⟩ => ?_
  subst he
  exact ⟨_, rfl, _, _, _, [], _, [], hW', trodAll_mk1 (shut_bool Try.underlying4 _), (trodAll_cons_mk (shut_int Try.underlying3 w0) (trodAll_cons_mk (shut_int Try.underlying3 w1) trodAll_mk0)), rfl, bel.frame _, fun h => by cases h⟩

theorem over : Rows.sessManyRow.holds Try.pinned (OpenSpec.ofChange Rows.sessManySpec) :=
  OpenClaim.holds_of_wide 7 Try.f7 rfl rfl rfl rfl rfl rfl rfl ⟨rfl, rfl, rfl, rfl, rfl⟩ rfl rfl rfl rfl rfl (by kernel_rfl) Try.func7 (by kernel_rfl)
    (of_decide_eq_true (by kernel_rfl)) (by unfold Func.isWrapper; first | (rw [if_pos (by decide +kernel)]; kernel_rfl) | (rw [if_neg (by decide +kernel)]; exact ⟨rfl, rfl⟩))
    (fun os started H enc _ => lifted os started H enc)

theorem proved : Rows.SessManySaid := over
end Go.Proofs.Ytckengglamkaaaa.sessMany
