/- TreeQuotas. No conditions beyond those in the statement. -/
import Derived.Test.YtnobblfjhhngiaaDoorTreeQ
import Derived.Test.YtnobblfjhhngiaaDoorCards
import Derived.Test.YtnobblfjhhngiaaDoorTie
import Derived.ProofKit
import Derived.OpenShut
import Derived.ShutString
import Derived.ChangeOld
import Derived.Deep.DeepHandedRow
import Derived.Lib.LaidTab
import Derived.Stop.LaidErr
import Derived.Lay
namespace Go.Proofs.YtnobblfjhhngiaaDoor.treeQuotas
open Go.ChangeShapes Go.WideShapes Go.ChangeAt Go.RowKit
open Go.ChangeMaps (open_string shut_string)
set_option linter.unusedVariables false
set_option maxRecDepth 100000
theorem i64_and15 (n : Int) : bits .and .i64 n 15 = n % 16 := by
  have h127 : (BitVec.ofInt 64 15).toNat = 2 ^ 4 - 1 := by decide
  have key : (BitVec.ofInt 64 n &&& BitVec.ofInt 64 15).toNat = (n % ((2 ^ 64 : Nat) : Int)).toNat % 2 ^ 4 := by
    rw [BitVec.toNat_and, BitVec.toNat_ofInt, h127, Nat.and_two_pow_sub_one_eq_mod]
  show IntKind.i64.wrap ((BitVec.ofInt 64 n &&& BitVec.ofInt 64 15).toNat : Nat) = n % 16
  rw [key, IntKind.wrap_i64]
  omega
theorem root_get (j : Nat) : getN (QT j) [47] = (rootN j, 0) := by unfold getN; rw [root_check, QT_root]; rfl
theorem ser_q (j : Nat) (hj : j < 59) (W : World) : Calls Tryd.prog 11 #[.string (bs [47, 110]), .int .i64 (j : Int)] W fun e w' => e = .returned (.string (bs (nP j))) ∧ Below W.heap.size W w' := by
  have := serial_small (bs [47, 110]) j W (by decide) (by omega)
  rw [bs_list, serialL_dig _ _ (by omega)] at this
  exact this
set_option maxHeartbeats 4000000 in
theorem walk (a0 : Int) (w : World) (w0 : (Lit.int .i64 a0).wf = true) :
    Calls Tryd.prog 3 #[.int .i64 a0] w fun e w' => e = .returned (.bool true) ∧ Below w.heap.size w w' := by
  have HH := Lib.hid (head9_any w)
  clear w0
  obtain ⟨m, hm16, hm⟩ : ∃ m : Nat, m < 16 ∧ bits .and .i64 a0 15 = (m : Int) := ⟨(a0 % 16).toNat, by omega, by rw [i64_and15]; omega⟩
  obtain ⟨N, hN, hN1, hN2⟩ : ∃ N : Nat, IntKind.i64.wrap (50 + (m : Int)) = (N : Int) ∧ 50 ≤ N ∧ N ≤ 65 := ⟨50 + m, by rw [IntWalk.i64_in _ (by omega)]; omega, by omega, by omega⟩
  clear hm16
  go_enter Tryd.func3, Tryd.ntmps3
  go_wp2_with fail
  refine HH.out.mono ?_
  rintro e w1 ⟨rfl, b1⟩
  have HN := Lib.hid (new_any w1)
  go_wp2_with fail
  refine HN.out.mono ?_
  rintro e w2 ⟨tb, mb, rfl, H2, b2, ht, hmb⟩
  replace b2 := b1.trans (b2.mono b1.size)
  have hmw : w.heap.size ≤ mb := Nat.le_trans b1.size hmb
  have htw : w.heap.size ≤ tb := Nat.le_trans b1.size ht
  clear hN hm b1 ht hmb
  go_wp2_with fail
  go_loopw [4, 5, 6] (fun iv _ _ wr => ∃ j : Nat, j ≤ N ∧ iv = .int .i64 ((j : Int) + 1) ∧ TrW wr tb mb (1 + 2 * j) (min (j + 1) 60) (QT (min j 59)) ∧ Below w.heap.size w wr) (fun iv _ _ _ => N + 1 - (intOf iv).toNat)
  case atStart => exact ⟨0, by omega, rfl, H2, b2⟩
  case round =>
    obtain ⟨j, hj, rfl, HT, bk⟩ := hrel
    have s1 : IntKind.i64.wrap ((j : Int) + 1 + 1) = (j : Int) + 1 + 1 := IntWalk.i64_in _ (by omega)
    have s2 : IntKind.i64.wrap ((j : Int) + 1 - 1) = (j : Int) := by rw [IntWalk.i64_in _ (by omega)]; omega
    clear H2
    by_cases hlt : j < N
    · have hlt2 : decide ((j : Int) + 1 ≤ (N : Int)) = true := by simp; omega
      by_cases h59 : j < 59
      · have d1 : decide ((j : Int) + 1 ≤ 59) = true := by simp; omega
        have d2 : decide ((59 : Int) < (j : Int) + 1) = false := by simp; omega
        rw [Nat.min_eq_left (by omega : j + 1 ≤ 60), Nat.min_eq_left (by omega : j ≤ 59)] at HT
        have C := create_any tb mb (1 + 2 * j) (j + 1) (QT j) [47, 110] ⟨#[]⟩ 0 ((j : Int) + 1) true wr HT (by decide) (by decide) (QT_small j (by omega)) (by omega)
        rw [create_q j h59] at C
        have HC := Lib.hid C
        have HS := Lib.hid (ser_q j h59)
        obtain ⟨x, hx⟩ : ∃ x, x = bs (nP j) := ⟨_, rfl⟩
        rw [← hx] at HC HS
        have ex : (x.toList == x.toList) = true := by simp
        clear hx C HT
        go_wp2_with fail
        refine HC.out.mono ?_
        rintro e w3 ⟨rfl, L3⟩
        have b3 := bk.trans (left_below L3 hmw bk.size)
        obtain ⟨H3, _⟩ := L3
        go_wp2_with fail
        refine (HS.out _).mono ?_
        rintro e w4 ⟨rfl, b4⟩
        have H4 := H3.below b4
        replace b4 := b3.trans (b4.mono b3.size)
        clear H3
        go_wp2_with fail
        go_roundw
        case rel => exact ⟨j + 1, by omega, by go_num, by rw [Nat.min_eq_left (by omega : j + 1 + 1 ≤ 60), Nat.min_eq_left (by omega : j + 1 ≤ 59)]; exact H4, by assumption⟩
        case measure => simp [intOf]; omega
      · have d1 : decide ((j : Int) + 1 ≤ 59) = false := by simp; omega
        have d2 : decide ((59 : Int) < (j : Int) + 1) = true := by simp; omega
        rw [Nat.min_eq_right (by omega : 60 ≤ j + 1), Nat.min_eq_right (by omega : 59 ≤ j)] at HT
        have C := create_any tb mb (1 + 2 * j) 60 (QT 59) [47, 110] ⟨#[]⟩ 0 ((j : Int) + 1) true wr HT (by decide) (by decide) (QT_small 59 (by omega)) (by omega)
        rw [create_full 60 (by omega)] at C
        rw [show bs [] = ⟨#[]⟩ from rfl] at C
        have HC := Lib.hid C
        clear C HT
        go_wp2_with fail
        refine HC.out.mono ?_
        rintro e w3 ⟨rfl, L3⟩
        have b3 := bk.trans (left_below L3 hmw bk.size)
        obtain ⟨H3, _⟩ := L3
        go_wp2_with fail
        go_roundw
        case rel => exact ⟨j + 1, by omega, by go_num, by rw [Nat.min_eq_right (by omega : 60 ≤ j + 1 + 1), Nat.min_eq_right (by omega : 59 ≤ j + 1)]; exact H3, by assumption⟩
        case measure => simp [intOf]; omega
    · obtain rfl : j = N := by omega
      have hlt2 : decide ((j : Int) + 1 ≤ (j : Int)) = false := by simp; omega
      have HG := Lib.hid (get_any tb mb (1 + 2 * j) (min (j + 1) 60) (QT (min j 59)) [47] wr HT (by decide))
      rw [root_get] at HG
      unfold ndV rootN at HG
      have hr : ∃ r : Int, r = ((min j 59 : Nat) : Int) ∧ ∃ l : Int, l = ((min (j + 1) 60 : Nat) : Int) := ⟨_, rfl, _, rfl⟩
      obtain ⟨r, hr, l, hl⟩ := hr
      rw [← hr] at HG
      have m1 : min (j : Int) 59 = r := by omega
      have m2 : min ((j : Int) + 1) 60 = l := by omega
      have HL := Lib.hid (fun (W : World) (h : TrW W tb mb (1 + 2 * j) (min (j + 1) 60) (QT (min j 59))) => len_any tb mb _ _ _ W h)
      rw [← hl] at HL
      have HT2 := Lib.hid HT
      clear hr hl hlt HT s2 s1
      have s3 : IntKind.i64.wrap ((j : Int) + 1) = (j : Int) + 1 := IntWalk.i64_in _ (by omega)
      go_wp2_with fail
      refine HG.out.mono ?_
      rintro e w3 ⟨rfl, b3⟩
      have H3 := HT2.out.below b3
      replace b3 := bk.trans (b3.mono bk.size)
      go_wp2_with fail
      have N4 := NdB.new w3 ⟨⟨#[]⟩, 0, r, 0, 0, 0, r⟩
      have b4 := b3.alloc b3.size (.cells #[.string ⟨#[]⟩, .int .i64 0, .int .i64 r, .int .i64 0, .int .i64 0, .int .i64 0, .int .i64 r] 30)
      have H4 := H3.below ((Below.refl _ w3).alloc (Nat.le_refl _) (.cells #[.string ⟨#[]⟩, .int .i64 0, .int .i64 r, .int .i64 0, .int .i64 0, .int .i64 0, .int .i64 r] 30))
      unfold ndC at N4
      refine (HL.out _ H4).mono ?_
      rintro e w5 ⟨rfl, rfl⟩
      obtain ⟨⟨c0, c1, c2, c3, c4, c5, c6⟩, f0, f1, f2, f3, f4, f5, f6⟩ := N4.cells
      clear N4 H3 H4 b3
      go_wp2_with fail
      go_ret
      exact ⟨by simp, b4⟩

theorem own : ownKnob Tryd.prog.godebug = none := by kernel_rfl
theorem laidOut : laidOutB Tryd.prog = true := by kernel_rfl

theorem contract (H : Type) (enc : TypeId × Value → H) (W : World) (base : Nat) (args : Array Value) (ds gs : List (DataW H)) (before : List MemPlace)
    (hval : ∀ (j : Nat) t v, Tryd.f3.params[j]? = some t → args[j]? = some v → Value.okWide Tryd.prog W .any base t v)
    (hW : DataW.Whole enc Tryd.prog Tryd.f3.params.toList Rows.treeQuotasSpec.vars false W args.toList ds gs before) (hL : laidMetH Tryd.prog Rows.treeQuotasRow.laid W) :
    Calls Tryd.prog 3 args W fun e W' => ∃ v, e = .returned v ∧ Rows.treeQuotasSpec.post enc Tryd.prog Tryd.f3 false true false false W args v W' := by
  have hW' := hW
  obtain ⟨p, q, hA0, hV, rfl, hfz, hnd⟩ := hW
  have hA : DataW.TrodAll enc Tryd.prog W 0 (fun _ => true) true Tryd.f3.params.toList args.toList ds p := hA0
  rw [Tryd.params3] at hA hval
  obtain ⟨v0, vs0, d0, ds0, p0, q0, hargs, rfl, rfl, h0, r0⟩ := trodAll_cons hA
  obtain ⟨rfl, rfl, rfl⟩ := trodAll_nil r0
  obtain rfl : args = #[v0] := by cases args; simp_all
  obtain ⟨rfl, rfl⟩ := trodVars_none hV
  obtain ⟨a0, rfl, rfl, rfl, w0⟩ := open_int Tryd.underlying3 (hval 0 3 v0 rfl rfl) h0
  clear hA0
  refine (walk a0 W w0).mono fun e W' ⟨he, bel⟩ => ?_
  subst he
  exact ⟨_, rfl, _, _, _, [], _, [], hW', trodAll_mk1 (shut_bool Tryd.underlying4 _), (trodAll_cons_mk (shut_int Tryd.underlying3 w0) trodAll_mk0), rfl, bel.frame _, fun h => by cases h⟩

theorem laid_met (os : Os) : laidMet Tryd.prog Rows.treeQuotasRow.laid ((World.laidAll Tryd.prog os Rows.treeQuotasRow.laid).forCall (fun _ _ => 0) ⟨#[], #[.int .i64 0], []⟩).memory :=
  laidMet_laidAll _ (by kernel_rfl) (by kernel_rfl)
theorem reads (os : Os) {H : Type} (enc : TypeId × Value → H) : ∃ places, DataW.whole enc Tryd.prog ((World.laidAll Tryd.prog os Rows.treeQuotasRow.laid).forCall (fun _ _ => 0) ⟨#[], #[.int .i64 0], []⟩).memory Tryd.f3.params.toList Rows.treeQuotasSpec.vars false #[Value.int .i64 0].toList 8 = some ([.lit (.int .i64 0)], [], places) :=
  ⟨[], by kernel_rfl⟩

set_option maxRecDepth 100000 in
theorem lifted (os : Os) (started : os.Started) (H : Type) (enc : TypeId × Value → H) (F : Stop.Interp) :
    ReturnsInHanded {} Tryd.checked os 3 .any ((OpenSpec.ofChange Rows.treeQuotasSpec).preRow enc Tryd.prog Tryd.f3 Rows.treeQuotasRow.domain false Rows.treeQuotasRow.laid) (((OpenSpec.ofChange Rows.treeQuotasSpec).at F).post enc Tryd.prog Tryd.f3 false true false false) := by
  obtain ⟨places, hx⟩ := reads os enc
  refine returnsInHanded_of_row (C := Tryd.checked) (s := OpenSpec.ofChange Rows.treeQuotasSpec) own started (by kernel_rfl) Tryd.func3
    (witness_zip (enc := enc) (C := Tryd.checked) false (World.laidAll Tryd.prog os Rows.treeQuotasRow.laid) #[.int .i64 0] (World.laidAll_os _ _ _) (World.shaped_of_ZipB (by kernel_rfl) (by kernel_rfl)) (by kernel_rfl)
      (OpenSpec.preRow_of_cond 8 hx (by kernel_rfl) (fun k hk => by cases hk) (by kernel_rfl) (laid_met os))) ?_
  intro W base args ds gs before hval hW _ _ _ hL _ _
  exact contract H enc W base args ds gs before hval hW hL

theorem said : Rows.TreeQuotasSaid :=
  OpenClaim.holds_of_cond 3 Tryd.f3 rfl rfl rfl rfl rfl rfl rfl ⟨rfl, rfl, rfl, rfl, rfl⟩ rfl rfl rfl rfl rfl (by kernel_rfl) Tryd.func3 (by kernel_rfl)
    (of_decide_eq_true (by kernel_rfl)) (by unfold Func.isWrapper; first | (rw [if_pos (by decide +kernel)]; kernel_rfl) | (rw [if_neg (by decide +kernel)]; exact ⟨rfl, rfl⟩))
    (fun os started H enc _ F => by rw [OpenClaim.pre_eq_preRow]; exact lifted os started H enc F)

theorem plain (f : FuncId) (fn : Func) (hf : Tryd.pinned.checked.prog.funcNamed "orchard/orchardlaw09.TreeQuotas" = some f) (hfn : Tryd.pinned.checked.prog.funcs[f]? = some fn) :
    false = Tryd.pinned.checked.prog.looks [] ∧ ∀ (j : Nat) t, fn.params[j]? = some t → Tryd.pinned.checked.prog.wantsStandIn t = false := by
  obtain rfl : f = 3 := Option.some.inj ((show Tryd.prog.funcNamed "orchard/orchardlaw09.TreeQuotas" = some 3 by kernel_rfl).symm.trans hf) |>.symm
  obtain rfl : fn = Tryd.f3 := (Option.some.inj (Tryd.func3.symm.trans hfn)).symm
  refine ⟨by kernel_rfl, fun j t ht => ?_⟩
  rw [Tryd.params3] at ht
  have hm := Array.mem_of_getElem? ht
  simp at hm
  subst hm
  exact (show Tryd.prog.wantsStandIn 3 = false by kernel_rfl)

theorem card : Rows.TreeQuotasCardSaid :=
  Claim7.holds_tied_plain_at .later [] _ _ _ _ said (fun _ h => by cases h) (by kernel_rfl) (fun _ h => by cases h) treeQuotas_row_tie rfl ⟨rfl, rfl⟩ (by kernel_rfl) rfl plain (by kernel_rfl)
end Go.Proofs.YtnobblfjhhngiaaDoor.treeQuotas
