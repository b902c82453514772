/- TreeSerials. No conditions beyond those in the statement. -/
import Derived.Test.YtnobblfjhhngiaaDoorTreeBools
import Derived.Test.YtnobblfjhhngiaaDoorCards
import Derived.Test.YtnobblfjhhngiaaDoorTie
import Derived.ProofKit
import Derived.OpenShut
import Derived.ShutString
import Derived.ChangeOld
import Derived.Deep.DeepHandedRow
import Derived.Lib.LaidTab
import Derived.Stop.LaidErr
import Derived.Lay
namespace Go.Proofs.YtnobblfjhhngiaaDoor.treeSerials
open Go.ChangeShapes Go.WideShapes Go.ChangeAt Go.RowKit
open Go.ChangeMaps (open_string shut_string)
set_option linter.unusedVariables false
set_option maxRecDepth 100000
set_option maxHeartbeats 4000000 in
theorem walk (v0 : Value) (a : Nat × (Nat → Bool)) (w : World) (w0 : BoolsR w v0 a) :
    Calls Tryd.prog 4 #[v0] w fun e w' => e = .returned (.bool true) ∧ Below w.heap.size w w' := by
  have HH := Lib.hid (head9_any w)
  have I0 := Lib.hid w0
  obtain ⟨xa, xc, hva, hxc, hxm, _⟩ := w0
  obtain ⟨N, B⟩ := a
  simp only at hva hxc I0
  subst hva
  by_cases ha : 50 < N
  · have d1 : decide ((50 : Int) < (N : Int)) = true := by simp; omega
    go_enter Tryd.func4, Tryd.ntmps4
    go_wp2_with fail
    refine HH.out.mono ?_
    rintro e w1 ⟨rfl, hb⟩
    go_wp2_with fail
    go_ret
    exact ⟨rfl, hb⟩
  have d1 : decide ((50 : Int) < (N : Int)) = false := by simp; omega
  have la : N ≤ 50 := by omega
  clear ha
  go_enter Tryd.func4, Tryd.ntmps4
  go_wp2_with fail
  refine HH.out.mono ?_
  rintro e w1 ⟨rfl, b1⟩
  have HN := Lib.hid (new_any w1)
  go_wp2_with fail
  refine HN.out.mono ?_
  rintro e w2 ⟨tb, mb, rfl, H2, b2, ht, hmb⟩
  replace b2 := b1.trans (b2.mono b1.size)
  have hmw : w.heap.size ≤ mb := Nat.le_trans b1.size hmb
  clear HN b1 ht hmb
  go_wp2_with fail
  go_loopw [4, 5, 6, 7, 18] (fun _ _ _ _ iv wr => ∃ (k c : Nat) (b : Int) (T : List UInt8 → Option Nd), k ≤ N ∧ iv = .int .i64 k ∧ SInv k b T ∧ (0 ≤ b ∧ b ≤ 2 * (k : Int)) ∧ c ≤ k + 1 ∧ TrW wr tb mb (1 + 3 * k) c T ∧ Below w.heap.size w wr) (fun _ _ _ _ iv _ => N - (intOf iv).toNat)
  case atStart => exact ⟨0, 1, 0, rootT, by omega, rfl, SInv.new, by omega, by omega, H2, b2⟩
  case round =>
    obtain ⟨k, c, b, T, hk, rfl, hI, hb, hc, HT, bk⟩ := hrel
    clear H2 b2
    have HI := Lib.hid hI
    by_cases hlt : k < N
    · have hlt2 : decide ((k : Int) < (N : Int)) = true := by simp; omega
      have hcellx : ∃ gg off, xa = some ⟨gg, off, none⟩ ∧ wr.cell? ⟨gg, off + k, none⟩ = some (.bool (B k)) := by
        obtain ⟨_, _, hv, _, _, h3⟩ := BoolsR.below I0.out bk
        injection hv with ha _ _
        obtain ⟨gg, off, h4, _, h5⟩ := h3.resolve_left (by simp; omega)
        exact ⟨gg, off, ha.trans h4, h5 k hlt⟩
      obtain ⟨gg, off, rfl, hc1⟩ := hcellx
      obtain ⟨z, hz⟩ : ∃ z, z = B k := ⟨_, rfl⟩
      rw [← hz] at hc1
      clear hz
      have t2 : IntKind.i64.wrap ((k : Int) + 1) = (k : Int) + 1 := IntWalk.i64_in _ (by omega)
      have h2 : (0 : Int) ≤ (k : Int) := by omega
      have C := create_any tb mb (1 + 3 * k) c T [47, 110] ⟨#[]⟩ 0 ((k : Int) + 1) true wr HT (by decide) (by decide) hI.small (by omega)
      rw [hI.create (by omega) c (by omega) 0] at C
      have HC := Lib.hid C
      have HS := Lib.hid (ser_n k (by omega))
      have hI1 := hI.one (by omega) (by omega) 0
      have HD := Lib.hid (fun (W : World) (h : TrW W tb mb (1 + 3 * k + 2) (c + 1) (oneS T k b 0)) => delete_ok tb mb (1 + 3 * k + 2) (c + 1) (oneS T k b 0) (nP k) 0 W h (by rw [nP_len]; decide) hI1.ok (hI1.up k) _ (nP_check k) (updN_same _ _ _) (by unfold chkN; rw [nP_check]; unfold oneS; rw [updN_same]; rfl) (nP_ne k) (rootB (k + 1) (b + 1)) (by rw [nP_up]; exact hI1.root) (by unfold rootB; simp; omega) (by omega))
      have HI2 := Lib.hid (SInv.less hI1 (by omega) (by omega))
      have HI1 := Lib.hid hI1
      obtain ⟨x, hx⟩ : ∃ x, x = bs (nP k) := ⟨_, rfl⟩
      rw [← hx] at HC HS HD
      have ex : (x.toList == x.toList) = true := by simp
      clear hx C HT hI hI1
      go_wp2_with fail
      refine HC.out.mono ?_
      rintro e w3 ⟨rfl, L3⟩
      have b3 := bk.trans (left_below L3 hmw bk.size)
      have H3 := L3.1
      clear L3 HC hc1
      go_wp2_with fail
      refine (HS.out _).mono ?_
      rintro e w4 ⟨rfl, b4⟩
      have H4 := H3.below b4
      replace b4 := b3.trans (b4.mono b3.size)
      clear H3 b3
      cases z
      · go_wp2_with fail
        go_roundw
        case rel => exact ⟨k + 1, c + 1, b + 1, _, by omega, by go_num, HI1.out, by omega, by omega, H4.mono (by omega), by assumption⟩
        case measure => simp [intOf]; omega
      · go_wp2_with fail
        refine (HD.out _ H4).mono ?_
        rintro e w5 ⟨rfl, L5⟩
        have b5 := b4.trans (left_below L5 hmw b4.size)
        have H5 := L5.1
        clear L5 HD
        go_wp2_with fail
        go_roundw
        case rel => exact ⟨k + 1, c + 1 - 1, b + 1 + 1, _, by omega, by go_num, HI2.out, by omega, by omega, H5.mono (by omega), by assumption⟩
        case measure => simp [intOf]; omega
    · obtain rfl : k = N := by omega
      have hlt2 : decide ((k : Int) < (k : Int)) = false := by simp
      have HG := Lib.hid (get_any tb mb _ c T [47] wr HT (by decide))
      rw [show getN T [47] = (rootB k b, 0) by unfold getN; rw [root_check, hI.root]; rfl] at HG
      unfold ndV rootB at HG
      clear hI HI HT hlt
      go_wp2_with fail
      refine HG.out.mono ?_
      rintro e w3 ⟨rfl, b3⟩
      replace b3 := bk.trans (b3.mono bk.size)
      have b4 := b3.alloc b3.size (.cells #[.string ⟨#[]⟩, .int .i64 0, .int .i64 b, .int .i64 0, .int .i64 0, .int .i64 0, .int .i64 (k : Int)] 30)
      go_wp2_with fail
      go_ret
      exact ⟨by simp, b4⟩

theorem own : ownKnob Tryd.prog.godebug = none := by kernel_rfl
theorem laidOut : laidOutB Tryd.prog = true := by kernel_rfl

theorem contract (H : Type) (enc : TypeId × Value → H) (W : World) (base : Nat) (args : Array Value) (ds gs : List (DataW H)) (before : List MemPlace)
    (hval : ∀ (j : Nat) t v, Tryd.f4.params[j]? = some t → args[j]? = some v → Value.okWide Tryd.prog W .any base t v)
    (hW : DataW.Whole enc Tryd.prog Tryd.f4.params.toList Rows.treeSerialsSpec.vars false W args.toList ds gs before) (hL : laidMetH Tryd.prog Rows.treeSerialsRow.laid W) :
    Calls Tryd.prog 4 args W fun e W' => ∃ v, e = .returned v ∧ Rows.treeSerialsSpec.post enc Tryd.prog Tryd.f4 false true false false W args v W' := by
  have hW' := hW
  obtain ⟨p, q, hA0, hV, rfl, hfz, hnd⟩ := hW
  have hA : DataW.TrodAll enc Tryd.prog W 0 (fun _ => true) true Tryd.f4.params.toList args.toList ds p := hA0
  rw [Tryd.params4] at hA hval
  obtain ⟨v0, vs0, d0, ds0, p0, q0, hargs, rfl, rfl, h0, r0⟩ := trodAll_cons hA
  obtain ⟨rfl, rfl, rfl⟩ := trodAll_nil r0
  obtain rfl : args = #[v0] := by cases args; simp_all
  obtain ⟨rfl, rfl⟩ := trodVars_none hV
  have k0 := h0
  have lt0 : ∀ x ∈ p0, x.block < W.heap.size := by obtain ⟨m, hm⟩ := k0; exact DataW.trod_lt m _ _ _ hm
  obtain ⟨z0, w0⟩ := bools_of (hval 0 35 v0 rfl rfl) h0
  clear hA0
  refine (walk v0 z0 W w0).mono fun e W' ⟨he, bel⟩ => ?_
  subst he
  exact ⟨_, rfl, _, _, _, [], _, [], hW', trodAll_mk1 (shut_bool Tryd.underlying4 _), (trodAll_cons_mk (Below.trod laidOut (by kernel_rfl) (of_decide_eq_true (by kernel_rfl)) k0 bel lt0) trodAll_mk0), rfl, bel.frame _, fun h => by cases h⟩

theorem laid_met (os : Os) : laidMet Tryd.prog Rows.treeSerialsRow.laid ((World.laidAll Tryd.prog os Rows.treeSerialsRow.laid).forCall (fun _ _ => 0) ⟨#[], #[.slice none 0 0], []⟩).memory :=
  laidMet_laidAll _ (by kernel_rfl) (by kernel_rfl)
theorem reads (os : Os) {H : Type} (enc : TypeId × Value → H) : ∃ places, DataW.whole enc Tryd.prog ((World.laidAll Tryd.prog os Rows.treeSerialsRow.laid).forCall (fun _ _ => 0) ⟨#[], #[.slice none 0 0], []⟩).memory Tryd.f4.params.toList Rows.treeSerialsSpec.vars false #[Value.slice none 0 0].toList 8 = some ([.nil], [], places) :=
  ⟨[], by kernel_rfl⟩

set_option maxRecDepth 100000 in
theorem lifted (os : Os) (started : os.Started) (H : Type) (enc : TypeId × Value → H) (F : Stop.Interp) :
    ReturnsInHanded {} Tryd.checked os 4 .any ((OpenSpec.ofChange Rows.treeSerialsSpec).preRow enc Tryd.prog Tryd.f4 Rows.treeSerialsRow.domain false Rows.treeSerialsRow.laid) (((OpenSpec.ofChange Rows.treeSerialsSpec).at F).post enc Tryd.prog Tryd.f4 false true false false) := by
  obtain ⟨places, hx⟩ := reads os enc
  refine returnsInHanded_of_row (C := Tryd.checked) (s := OpenSpec.ofChange Rows.treeSerialsSpec) own started (by kernel_rfl) Tryd.func4
    (witness_zip (enc := enc) (C := Tryd.checked) false (World.laidAll Tryd.prog os Rows.treeSerialsRow.laid) #[.slice none 0 0] (World.laidAll_os _ _ _) (World.shaped_of_ZipB (by kernel_rfl) (by kernel_rfl)) (by kernel_rfl)
      (OpenSpec.preRow_of_cond 8 hx (by kernel_rfl) (fun k hk => by cases hk) (by kernel_rfl) (laid_met os))) ?_
  intro W base args ds gs before hval hW _ _ _ hL _ _
  exact contract H enc W base args ds gs before hval hW hL

theorem said : Rows.TreeSerialsSaid :=
  OpenClaim.holds_of_cond 4 Tryd.f4 rfl rfl rfl rfl rfl rfl rfl ⟨rfl, rfl, rfl, rfl, rfl⟩ rfl rfl rfl rfl rfl (by kernel_rfl) Tryd.func4 (by kernel_rfl)
    (of_decide_eq_true (by kernel_rfl)) (by unfold Func.isWrapper; first | (rw [if_pos (by decide +kernel)]; kernel_rfl) | (rw [if_neg (by decide +kernel)]; exact ⟨rfl, rfl⟩))
    (fun os started H enc _ F => by rw [OpenClaim.pre_eq_preRow]; exact lifted os started H enc F)

theorem plain (f : FuncId) (fn : Func) (hf : Tryd.pinned.checked.prog.funcNamed "orchard/orchardlaw09.TreeSerials" = some f) (hfn : Tryd.pinned.checked.prog.funcs[f]? = some fn) :
    false = Tryd.pinned.checked.prog.looks [] ∧ ∀ (j : Nat) t, fn.params[j]? = some t → Tryd.pinned.checked.prog.wantsStandIn t = false := by
  obtain rfl : f = 4 := Option.some.inj ((show Tryd.prog.funcNamed "orchard/orchardlaw09.TreeSerials" = some 4 by kernel_rfl).symm.trans hf) |>.symm
  obtain rfl : fn = Tryd.f4 := (Option.some.inj (Tryd.func4.symm.trans hfn)).symm
  refine ⟨by kernel_rfl, fun j t ht => ?_⟩
  rw [Tryd.params4] at ht
  have hm := Array.mem_of_getElem? ht
  simp at hm
  subst hm
  exact (show Tryd.prog.wantsStandIn 35 = false by kernel_rfl)

theorem card : Rows.TreeSerialsCardSaid :=
  Claim7.holds_tied_plain_at .later [] _ _ _ _ said (fun _ h => by cases h) (by kernel_rfl) (fun _ h => by cases h) treeSerials_row_tie rfl ⟨rfl, rfl⟩ (by kernel_rfl) rfl plain (by kernel_rfl)
end Go.Proofs.YtnobblfjhhngiaaDoor.treeSerials
