/- DevFalls: the power fails at the operation that is said, whatever the two numbers: no condition on the input. -/
import Derived.Test.YtmfkbddfjfjfkaaFallsMath
import Derived.Test.YtmfkbddfjfjfkaaFtsOwn
import Derived.Laws.BitsLemmas
import Derived.ProofKit
import Derived.OpenShut
import Derived.ShutString
import Derived.ChangeOld
namespace Go.Proofs.Ytmfkbddfjfjfkaa.devFalls
open Go.ChangeShapes Go.WideShapes Go.ChangeAt Go.RowKit
open Go.ChangeMaps (open_string shut_string)
set_option linter.unusedVariables false

theorem i64_and31 (n : Int) : bits .and .i64 n 31 = n % 32 := by
  have h127 : (BitVec.ofInt 64 31).toNat = 2 ^ 5 - 1 := by decide
  have key : (BitVec.ofInt 64 n &&& BitVec.ofInt 64 31).toNat = (n % ((2 ^ 64 : Nat) : Int)).toNat % 2 ^ 5 := by
    rw [BitVec.toNat_and, BitVec.toNat_ofInt, h127, Nat.and_two_pow_sub_one_eq_mod]
  show IntKind.i64.wrap ((BitVec.ofInt 64 n &&& BitVec.ofInt 64 31).toNat : Nat) = n % 32
  rw [key, IntKind.wrap_i64]
  omega
theorem and31_nat (a : Int) : ∃ n : Nat, n < 32 ∧ bits .and .i64 a 31 = (n : Int) := ⟨(a % 32).toNat, by omega, by rw [i64_and31]; omega⟩

set_option maxRecDepth 100000 in
set_option maxHeartbeats 4000000 in
theorem walk (a0 a1 : Int) (w : World) (_ : (Lit.int .i64 a0).wf = true) (_ : (Lit.int .i64 a1).wf = true) :
    Calls Try.prog 7 #[.int .i64 a0, .int .i64 a1] w fun e w' => e = .returned (.bool true) ∧ Below w.heap.size w w' := by
  obtain ⟨n, hn, hbn⟩ := and31_nat a0
  obtain ⟨m, hm, hbm⟩ := and31_nat a1
  obtain ⟨i0, hi, hz0, hz1, hz2⟩ := info_parts info_fate
  go_enter Try.func7, Try.ntmps7
  go_wp2_with (go_at_call 8; refine (head_any _).mono ?_; rintro e w1 ⟨rfl, hb1⟩)
  clear hbn hbm
  refine (new_any 32 w1).mono ?_
  rintro e w2 ⟨B, rfl, hd2, hb2⟩
  have hB2 := hb1.trans (hb2.mono hb1.size)
  have hL2 : Lone w.heap.size w2 B (Dv.new 32) := lone_new hd2 hb1.size
  clear hb1 hb2 hd2
  go_wp2_with fail
  refine (lone_fall (n : Int) (by omega) hB2.size hL2).mono ?_
  rintro e w3 ⟨rfl, hL3, hb3⟩
  rw [Fk_zero] at hL3
  have hB3 := hB2.trans hb3
  clear hL2 hB2 hb3
  go_wp2_with fail
  go_loopw [6] (fun i wr => ∃ k : Nat, k ≤ m ∧ i = .int .i64 k ∧ Lone w.heap.size wr B (Fk n k) ∧ Below w.heap.size w wr) (fun i _ => m - (intOf i).toNat)
  case atStart => exact ⟨0, Nat.zero_le _, rfl, hL3, hB3⟩
  case round =>
    obtain ⟨k, hk, rfl, hL, hB⟩ := hrel
    clear hL3 hB3
    by_cases hlt : k < m
    · have hwr := lone_write (k : Int) xs1 hB.size (by have := Fk_writes n k; omega) hL
      rw [Fk_succ n k (by omega)] at hwr
      have HDN := Lib.hid (fun (W : World) (h : Lone w.heap.size W B (Fk n (k + 1))) => by have := lone_down h; rwa [Fk_down] at this)
      have HRD := Lib.hid (fun (W : World) (h : Lone w.heap.size W B (Fk n (k + 1))) => by have := lone_read (k : Int) (by have := Fk_writes n (k + 1); omega) h; rwa [Fk_read n k (by omega)] at this)
      unfold xs1 at hwr HRD
      by_cases hkn : k < n
      · have e1 : decide (n ≤ k) = false := by simp; omega
        have e2 : ¬ n ≤ k := by omega
        simp only [hkn, if_true] at hwr
        simp only [e1, e2, if_false] at HDN HRD
        clear hL e1 e2
        go_wp2_with (first
          | (go_at_call 18; refine hwr.mono ?_; rintro e w4 ⟨rfl, hL4, hb4⟩)
          | (go_at_call 21; refine (HDN.out _ hL4).mono ?_; rintro e w5 ⟨rfl, rfl⟩)
          | (go_at_call 19; refine (HRD.out _ hL4).mono ?_; rintro e w6 ⟨rfl, hb6⟩))
        go_roundw
        case rel => exact ⟨k + 1, by omega, by go_num, hL4.below hb6, (hB.trans hb4).trans (hb6.mono (hB.trans hb4).size)⟩
        case measure => simp [intOf]; omega
      · have e1 : decide (n ≤ k) = true := by simp; omega
        have e2 : n ≤ k := by omega
        simp only [hkn, if_false] at hwr
        simp only [e1, e2, if_true] at HDN HRD
        clear hL e1
        go_wp2_with (first
          | (go_at_call 18; refine hwr.mono ?_; rintro e w4 ⟨rfl, hL4, hb4⟩)
          | (go_at_call 21; refine (HDN.out _ hL4).mono ?_; rintro e w5 ⟨rfl, rfl⟩)
          | (go_at_call 19; refine (HRD.out _ hL4).mono ?_; rintro e w6 ⟨rfl, hb6⟩))
        go_roundw
        case rel => exact ⟨k + 1, by omega, by go_num, hL4.below hb6, (hB.trans hb4).trans (hb6.mono (hB.trans hb4).size)⟩
        case measure => simp [intOf]; omega
    · obtain rfl : k = m := by omega
      clear hlt hk
      obtain ⟨w4, hw4⟩ : ∃ w4, w4 = wr := ⟨_, rfl⟩
      rw [← hw4] at hL hB ⊢
      clear hw4
      go_wp2_with fail
      have hf0 := FOwn.new w4 w4.heap.size (Nat.le_refl _)
      go_loopw [11, 10] (fun i v wr => ∃ j : Nat, j ≤ k ∧ i = .int .i64 j ∧ FOwn wr w4.heap.size v (ones j) ∧ Below w4.heap.size w4 wr) (fun i _ _ => k - (intOf i).toNat)
      case atStart => exact ⟨0, Nat.zero_le _, rfl, hf0, (Below.refl _ _).alloc (Nat.le_refl _) _⟩
      case round =>
        obtain ⟨j, hj, rfl, hown, hb⟩ := hrel
        clear hf0
        by_cases hjk : j < k
        · have hsz := hb.size
          have hlt' := hown.lt
          have hl1 : (ones j).length = j := by simp [ones]
          have HL := Lib.hid hl1
          unfold FOwn at hown
          rw [hl1] at hown
          have HLT := Lib.hid hlt'
          clear hl1 hlt'
          go_wp2_with (at_builtin; refine wpList_append_own _ rfl _ _ 37 rfl w4.heap.size 45 i0 (.int .i64 0) 1 8 und_fates hi hz0 hz1 hz2 rfl (by decide) _ _ _ rfl (hown.alloc _) ⟨wr.heap.size, 0, none⟩ 1 1 [.int .i64 1] rfl rfl ?c1 ?c2 ?c3 ?c4 ?c5 ?_)
          case c1 =>
            intro j u hj
            match j, hj with
            | 0, hj => simp at hj; subst hj; simp [Addr.add]
          case c2 => intro u hu; simp at hu; subst hu; rfl
          case c3 => unfold maxLen; omega
          case c4 => omega
          case c5 => simp; omega
          · intro v' w5 hown' hgrow _
            have R : FOwn w5 w4.heap.size v' (ones (j + 1)) := by
              have e1 : ones (j + 1) = ones j ++ [1] := by simp [ones, List.replicate_succ']
              rw [e1]
              exact FOwn.snoc (by rw [HL.out]; exact hown')
            have hbel : Below w4.heap.size w4 w5 := (hb.alloc (by omega) _).grown hgrow (by simp; omega) (fun q hq => (HLT.out q hq).1)
            clear hown' hgrow hown
            go_wp2_with fail
            go_roundw
            case rel => exact ⟨j + 1, by omega, by go_num, R, hbel⟩
            case measure => simp [intOf]; omega
        · obtain rfl : j = k := by omega
          have hfts := hown.fts (by simp [ones, maxLen]; omega)
          have hcr := lone_crash _ (ones j) (by have := Fk_writes n j; omega) (hL.below hb) hfts
          have hB5 := hB.trans (hb.mono hB.size)
          clear hown hfts
          go_wp2_with fail
          refine hcr.mono ?_
          rintro e w6 ⟨B6, rfl, hd6, hb6⟩
          have hB6 := hB5.trans (hb6.mono hB5.size)
          have hL6 : Lone w.heap.size w6 B6 ((Fk n j).crash (ones j)) := lone_new hd6 hB5.size
          have HRD := Lib.hid (fun (W : World) (i : Nat) (hi : i < 32) (h : Lone w.heap.size W B6 ((Fk n j).crash (ones j))) => by have := lone_read (i : Int) (Nat.zero_le _) h; rwa [Fk_crash_read n j i (by omega) hi] at this)
          have hw1 := Fk_crash_write n j ⟨#[121]⟩ (by decide)
          have HWR := Lib.hid (fun (W : World) (hn : w.heap.size ≤ W.heap.size) (h : Lone w.heap.size W B6 ((Fk n j).crash (ones j))) => by have := lone_write 0 ⟨#[121]⟩ hn (Nat.zero_le _) h; rwa [hw1] at this)
          clear hd6 hb6 hcr hL hB hb hB5 hw1
          generalize (Fk n j).crash (ones j) = E at *
          unfold xs1 at HRD
          go_wp2_with fail
          go_loopw [13] (fun i wr => ∃ q : Nat, q ≤ 32 ∧ i = .int .i64 q ∧ Lone w.heap.size wr B6 E ∧ Below w.heap.size w wr) (fun i _ => 32 - (intOf i).toNat)
          case atStart => exact ⟨0, by omega, rfl, hL6, hB6⟩
          case round =>
            obtain ⟨q, hq, rfl, hL7, hB7⟩ := hrel
            clear hL6 hB6
            by_cases hq32 : q < 32
            · have hrd := HRD.out _ q hq32 hL7
              by_cases h1 : q < min n j
              · rw [if_pos h1] at hrd
                have g1 : q < n := by omega
                have g2 : q < j := by omega
                have g3 : decide ((q : Int) < min (n : Int) (j : Int)) = true := by simp; omega
                clear h1
                go_wp2_with (go_at_call 19; refine hrd.mono ?_; rintro e w8 ⟨rfl, hb8⟩)
                all_goals
                  go_roundw
                  case rel => exact ⟨q + 1, by omega, by go_num, hL7.below hb8, hB7.trans (hb8.mono hB7.size)⟩
                  case measure => simp [intOf]; omega
              · rw [if_neg h1] at hrd
                by_cases hnj : n ≤ j
                · have g1 : n ≤ q := by omega
                  clear h1
                  go_wp2_with (go_at_call 19; refine hrd.mono ?_; rintro e w8 ⟨rfl, hb8⟩)
                  go_roundw
                  case rel => exact ⟨q + 1, by omega, by go_num, hL7.below hb8, hB7.trans (hb8.mono hB7.size)⟩
                  case measure => simp [intOf]; omega
                · have g1 : j ≤ q := by omega
                  clear h1
                  go_wp2_with (go_at_call 19; refine hrd.mono ?_; rintro e w8 ⟨rfl, hb8⟩)
                  go_roundw
                  case rel => exact ⟨q + 1, by omega, by go_num, hL7.below hb8, hB7.trans (hb8.mono hB7.size)⟩
                  case measure => simp [intOf]; omega
            · go_wp2_with (go_at_call 18; refine (HWR.out _ hB7.size hL7).mono ?_; rintro e w8 ⟨rfl, hL8, hb8⟩)
              go_ret
              exact ⟨rfl, hB7.trans hb8⟩
theorem own : ownKnob Try.prog.godebug = none := by kernel_rfl
theorem laidOut : laidOutB Try.prog = true := by kernel_rfl

set_option maxRecDepth 100000 in
theorem lifted (os : Os) (started : os.Started) (H : Type) (enc : TypeId × Value → H) :
    ReturnsInHanded {} Try.checked os 7 .any (Rows.devFallsSpec.pre6 enc Try.prog Try.f7 Rows.devFallsRow.domain false) (Rows.devFallsSpec.post enc Try.prog Try.f7 false true false false) := by
  refine returnsInHanded_of_change (C := Try.checked) own started (by kernel_rfl) Try.func7
    (ChangeSpec.witness6 (enc := enc) (C := Try.checked) false ⟨#[], #[.int .i64 0, .int .i64 0], []⟩ 8 (by kernel_rfl) (by kernel_rfl) (by kernel_rfl) (by kernel_rfl)) ?_
  intro W base args ds gs before hval0 hW hcnd _
  have hval : ∀ (j : Nat) t v, Try.f7.params[j]? = some t → args[j]? = some v → Value.okWide Try.prog W .any base t v := hval0
  have hW' := hW
  obtain ⟨p, q, hA0, hV, rfl, hfz, hnd⟩ := hW
  have hA : DataW.TrodAll enc Try.prog W 0 (fun _ => true) true Try.f7.params.toList args.toList ds p := hA0
  rw [Try.params7] at hA hval
  obtain ⟨v0, vs0, d0, ds0, p0, q0, hargs, rfl, rfl, h0, r0⟩ := trodAll_cons hA
  obtain ⟨v1, vs1, d1, ds1, p1, q1, rfl, rfl, rfl, h1, r1⟩ := trodAll_cons r0
  obtain ⟨rfl, rfl, rfl⟩ := trodAll_nil r1
  obtain rfl : args = #[v0, v1] := by cases args; simp_all
  obtain ⟨rfl, rfl⟩ := trodVars_none hV
  obtain ⟨a0, rfl, rfl, rfl, w0⟩ := open_int Try.underlying3 (hval 0 3 v0 rfl rfl) h0
  obtain ⟨a1, rfl, rfl, rfl, w1⟩ := open_int Try.underlying3 (hval 1 3 v1 rfl rfl) h1
  clear hA0 hval0
  refine (walk a0 a1 W w0 w1).mono fun e W' ⟨he, bel⟩ => ?_
  subst he
  exact ⟨_, rfl, _, _, _, [], _, [], hW', trodAll_mk1 (shut_bool Try.underlying4 _), (trodAll_cons_mk (shut_int Try.underlying3 w0) (trodAll_cons_mk (shut_int Try.underlying3 w1) trodAll_mk0)), rfl, bel.frame _, fun h => by cases h⟩

theorem over : Rows.devFallsRow.holds Try.pinned (OpenSpec.ofChange Rows.devFallsSpec) :=
  OpenClaim.holds_of_wide 7 Try.f7 rfl rfl rfl rfl rfl rfl rfl ⟨rfl, rfl, rfl, rfl, rfl⟩ rfl rfl rfl rfl rfl (by kernel_rfl) Try.func7 (by kernel_rfl)
    (of_decide_eq_true (by kernel_rfl)) (by unfold Func.isWrapper; first | (rw [if_pos (by decide +kernel)]; kernel_rfl) | (rw [if_neg (by decide +kernel)]; exact ⟨rfl, rfl⟩))
    (fun os started H enc _ => lifted os started H enc)

theorem proved : Rows.DevFallsSaid := over
end Go.Proofs.Ytmfkbddfjfjfkaa.devFalls
