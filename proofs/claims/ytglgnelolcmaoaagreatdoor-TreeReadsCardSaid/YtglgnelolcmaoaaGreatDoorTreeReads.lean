/- TreeReads: whatever bytes come: a tree is read whose encoding they are, or none; no condition on the input (the listed tables lie as the program's text lays them). -/
import Derived.Test.YtglgnelolcmaoaaGreatDoorTreeRead
import Derived.Test.YtglgnelolcmaoaaGreatDoorTreeLay
import Derived.Test.YtglgnelolcmaoaaGreatDoorTreeSame
import Derived.Test.YtglgnelolcmaoaaGreatDoorTreeHead
import Derived.Test.YtglgnelolcmaoaaGreatDoorCards
import Derived.Test.YtglgnelolcmaoaaGreatDoorTie
import Derived.ProofKit
import Derived.OpenShut
import Derived.ShutString
import Derived.ChangeOld
import Derived.Deep.DeepHandedRow
import Derived.Lib.LaidTab
import Derived.Stop.LaidErr
import Derived.Lay
namespace Go.Proofs.YtglgnelolcmaoaaGreatDoor.treeReads
open Go.ChangeShapes Go.WideShapes Go.ChangeAt Go.RowKit
open Go.ChangeMaps (open_string shut_string)
set_option linter.unusedVariables false
set_option maxRecDepth 100000
theorem upP_len (z : List UInt8) : (upP z).length ≤ z.length + 1 := by
  have h : (upX z).length ≤ z.length := by
    unfold upX
    rw [List.length_reverse, List.length_drop]
    have := (List.dropWhile_sublist (fun c : UInt8 => c != 47) (l := z.reverse)).length_le
    rw [List.length_reverse] at this; omega
  unfold upP upB
  split
  · simp
  · split
    · simp
    · omega
theorem read_st (s : ByteArray) (w : World) (hs : s.size ≤ 140737488355328) : Calls Tryz.prog 24 #[.string s] w fun e w' => e = .returned (.pointer (some ⟨w.heap.size, 0, none⟩)) ∧ Rs w' w.heap.size (some s.data.toList) ∧ Below w.heap.size w w' :=
  (read_any s w).mono fun e w' ⟨h1, h2, h3, _⟩ => ⟨h1, ⟨by rw [arr_mk]; exact h2, by rw [← Lib.size_eq]; exact hs⟩, h3⟩
set_option maxHeartbeats 16000000 in
theorem walk (a0 : ByteArray) (w : World) (w0 : a0.size ≤ maxLen) :
    Calls Tryz.prog 5 #[.string a0] w fun e w' => e = .returned (.bool true) ∧ Below w.heap.size w w' := by
  have HH := Lib.hid (head9_any w)
  clear w0
  by_cases hs : 3000 < a0.size
  · have d1 : decide ((3000 : Int) < (a0.size : Int)) = true := by simp; omega
    go_enter Tryz.func5, Tryz.ntmps5
    go_wp2_with fail
    refine HH.out.mono ?_
    rintro e w1 ⟨rfl, b1⟩
    go_wp2_with fail
    go_ret
    exact ⟨rfl, b1⟩
  have d1 : decide ((3000 : Int) < (a0.size : Int)) = false := by simp; omega
  have hsz : a0.size ≤ 140737488355328 := by omega
  have HRD := Lib.hid (fun W : World => read_st a0 W hsz)
  obtain ⟨hO, hL60, hL1⟩ := readT_ok (some a0.data.toList)
  have hsome := @readT_some (some a0.data.toList)
  have hfail := @readT_fail (some a0.data.toList)
  have HTR := Lib.hid (fun (b : Nat) (W : World) (hW : Rs W b (some a0.data.toList)) => tread_any b (some a0.data.toList) W hW)
  generalize readT (some a0.data.toList) = R at hO hL60 hL1 hsome hfail HTR
  obtain ⟨T, L, S⟩ := R
  simp only at hO hL60 hL1 hsome hfail HTR
  have HO := Lib.hid hO
  have HSO := Lib.hid (fun (h : S = some []) => hsome h)
  have HFA := Lib.hid hfail
  clear hO hsome hfail hs hsz
  go_enter Tryz.func5, Tryz.ntmps5
  go_wp2_with fail
  refine HH.out.mono ?_
  rintro e w1 ⟨rfl, b1⟩
  go_wp2_with fail
  refine (HRD.out _).mono ?_
  rintro e w2 ⟨rfl, R2, b2⟩
  replace b2 := b1.trans (b2.mono b1.size)
  have hrw : w.heap.size ≤ w1.heap.size := b1.size
  obtain ⟨rb, hrb⟩ : ∃ rb, rb = w1.heap.size := ⟨_, rfl⟩
  rw [← hrb] at R2 hrw ⊢
  clear b1 hrb HH HRD
  go_wp2_with fail
  refine (HTR.out _ _ R2).mono ?_
  rintro e w3 ⟨tb, mb, k, rfl, T3, R3, g3, ht, hm, hk⟩
  have htw : w.heap.size ≤ tb := by have := b2.size; omega
  have hmw : w.heap.size ≤ mb := by have := b2.size; omega
  have b3 : Below w.heap.size w w3 := b2.grown g3 b2.size (fun q hq => by cases hq; exact hrw)
  have HDN := Lib.hid (done_rs rb S w3 R3)
  clear R2 g3 ht hm b2 HTR
  by_cases hdn : doneF S = 0
  · have hS := doneF_zero hdn
    subst hS
    obtain ⟨t, ht, htl⟩ := HSO.out rfl
    injection ht with ht
    have HLE : Hid (a0.data.toList = layE L) := Lib.hid (by rw [ht, htl, List.append_nil])
    clear hdn ht htl HSO HFA
    unfold doneF at HDN
    have HT3 := Lib.hid T3
    have HPA := Lib.hid (paths_any tb mb k L.length T L w3 T3 HO.out.rep (by omega))
    clear T3 R3
    go_wp2_with fail
    refine HDN.out.mono ?_
    rintro e w4 ⟨rfl, hw⟩
    obtain rfl := hw
    go_wp2_with fail
    refine HPA.out.mono ?_
    rintro e w5 ⟨v, rfl, hrow, b5⟩
    obtain ⟨a, ca, rfl, ha⟩ := row_formL hrow
    obtain ⟨g, rfl⟩ := ha (by omega)
    have HPR := Lib.hid (show PRow w5 w3.heap.size (some ⟨g, 0, none⟩) ca L from hrow)
    have T5 := Lib.hid (HT3.out.below b5)
    replace b5 := b3.trans (b5.mono b3.size)
    clear hrow ha b3 HDN HPA HT3
    go_wp2_with fail
    go_loopw [33] (fun iv wr => ∃ j : Nat, j ≤ L.length ∧ iv = .int .i64 j ∧ Hid (PRow wr w3.heap.size (some ⟨g, 0, none⟩) ca L) ∧ Hid (TrW wr tb mb k L.length T) ∧ Below w.heap.size w wr) (fun iv _ => L.length - (intOf iv).toNat)
    case atStart => exact ⟨0, by omega, rfl, HPR, T5, b5⟩
    case round =>
      obtain ⟨j, hj, rfl, HP, HT, bk⟩ := hrel
      clear HPR T5 b5
      by_cases hlt : j < L.length
      · have hlt2 : decide ((j : Int) < (L.length : Int)) = true := by simp; omega
        have t2 : IntKind.i64.wrap ((j : Int) + 1) = (j : Int) + 1 := IntWalk.i64_in _ (by omega)
        have hj0 : (0 : Int) ≤ (j : Int) := by omega
        have hji : (j : Int) < (L.length : Int) := by omega
        have hcj := HP.out.at hlt
        have hmem : L.getD j meZ ∈ L := getD_mem hlt
        obtain ⟨⟨p, n⟩, he⟩ : ∃ e, e = L.getD j meZ := ⟨_, rfl⟩
        rw [← he] at hcj hmem
        have hTp := (HO.out.rep.mem p n).2 hmem
        have hck := HO.out.keys p n hTp
        have hpr := HO.out.par p n hTp
        have hpl : p.length ≤ 60 := by
          by_cases hr : p = [47]
          · rw [hr]; decide
          · obtain ⟨_, _, _, _, _, h⟩ := check_split hck hr; exact h
        have HU := Lib.hid (fun W : World => up_path p W hck)
        have HG := Lib.hid (fun (W : World) (hW : Below wr.heap.size wr W) => get_any tb mb k L.length T (upP p) W (HT.out.below hW) (by have := upP_len p; omega))
        have hcke : checkE p = 0 := by unfold checkE; rw [hck]; rfl
        have HCK := Lib.hid (fun W : World => check_any (bs p) W)
        rw [bs_list, hcke] at HCK
        obtain ⟨gn, ge, hge⟩ : ∃ a b, getN T (upP p) = (a, b) := ⟨_, _, rfl⟩
        rw [hge] at HG
        simp only at HG
        unfold ndV at HG
        have hcase : (((bs p).toList == [47]) = true) ∨ (((bs p).toList == [47]) = false ∧ ge = 0) := by
          by_cases hr : p = [47]
          · exact .inl (eq_true (by rw [bs_list, hr]))
          · refine .inr ⟨eq_false (by rw [bs_list]; exact hr), ?_⟩
            obtain ⟨q, hq⟩ := hpr hr
            have : getN T (upP p) = (q, 0) := get_someR (check_up hck hr) hq
            rw [hge] at this; injection this
        clear hmem hTp hck hpr hcke hge he
        rcases hcase with e1 | ⟨e1, e2⟩
        · go_wp2_with fail
          refine (HU.out _).mono ?_
          rintro e w6 ⟨rfl, nd, hw6⟩
          have b6 : Below wr.heap.size wr w6 := by rw [hw6]; exact drewN_below wr nd
          clear hw6
          go_wp2_with fail
          refine (HG.out _ b6).mono ?_
          rintro e w7 ⟨rfl, b7⟩
          obtain ⟨w8, hst, N8, b8, hz8⟩ := newN w7 gn
          unfold ndV at hst
          have HST := Lib.hid hst
          replace b8 := (b6.trans (b7.mono b6.size)).trans (b8.mono (by have := b6.size; have := b7.size; omega))
          clear hst b6 b7 N8 hz8
          go_wp2_with (refine wpList_store_run HST.out rfl rfl rfl rfl ?_)
          refine (HCK.out _).mono ?_
          rintro e w9 ⟨rfl, b9⟩
          replace b9 := b8.trans (b9.mono b8.size)
          have P9 := Lib.hid (HP.out.low b9)
          have T9 := Lib.hid (HT.out.below b9)
          replace b9 := bk.trans (b9.mono bk.size)
          clear b8
          go_wp2_with fail
          go_roundw
          case rel => exact ⟨j + 1, by omega, by go_num, P9, T9, b9⟩
          case measure => simp [intOf]; omega
        · subst e2
          go_wp2_with fail
          refine (HU.out _).mono ?_
          rintro e w6 ⟨rfl, nd, hw6⟩
          have b6 : Below wr.heap.size wr w6 := by rw [hw6]; exact drewN_below wr nd
          clear hw6
          go_wp2_with fail
          refine (HG.out _ b6).mono ?_
          rintro e w7 ⟨rfl, b7⟩
          obtain ⟨w8, hst, N8, b8, hz8⟩ := newN w7 gn
          unfold ndV at hst
          have HST := Lib.hid hst
          replace b8 := (b6.trans (b7.mono b6.size)).trans (b8.mono (by have := b6.size; have := b7.size; omega))
          clear hst b6 b7 N8 hz8
          go_wp2_with (refine wpList_store_run HST.out rfl rfl rfl rfl ?_)
          refine (HCK.out _).mono ?_
          rintro e w9 ⟨rfl, b9⟩
          replace b9 := b8.trans (b9.mono b8.size)
          have P9 := Lib.hid (HP.out.low b9)
          have T9 := Lib.hid (HT.out.below b9)
          replace b9 := bk.trans (b9.mono bk.size)
          clear b8
          go_wp2_with fail
          go_roundw
          case rel => exact ⟨j + 1, by omega, by go_num, P9, T9, b9⟩
          case measure => simp [intOf]; omega
      · have hlt2 : decide ((j : Int) < (L.length : Int)) = false := by simp; omega
        have HLY := Lib.hid (lay_any tb mb k L.length T L wr HT.out HO.out.rep rfl (by omega) (fun x n h => (HO.out.nd x n h).toPut) (fun x n h => by
          have hck := HO.out.keys x n h
          by_cases hr : x = [47]
          · rw [hr]; decide
          · obtain ⟨_, _, _, _, _, h⟩ := check_split hck hr; omega))
        go_wp2_with fail
        refine HLY.out.mono ?_
        rintro e w6 ⟨v, rfl, B6, b6⟩
        have hconv := run_str B6.src
        have heq : (⟨(layE L).toArray⟩ : ByteArray) = a0 := by rw [← HLE.out, arr_mk]
        rw [heq] at hconv
        replace b6 := bk.trans (b6.mono bk.size)
        clear heq B6 bk
        go_wp2_with fail
        go_ret
        exact ⟨rfl, b6⟩
  · have hd2 : doneF S = 2 := by
      cases S with
      | none => rfl
      | some l => cases l with
        | nil => exact absurd rfl hdn
        | cons c l => rfl
    rw [hd2] at HDN
    have HOK := Lib.hid (ok_rs rb S w3 R3)
    cases hok : okF S
    · obtain ⟨h1, h2⟩ := HFA.out hok
      subst h1 h2
      rw [hok] at HOK
      have T3' := Lib.hid T3
      have HNW := Lib.hid (new_any w3)
      clear hok hd2 hdn HSO HFA T3 R3
      go_wp2_with fail
      refine HDN.out.mono ?_
      rintro e w4 ⟨rfl, hw⟩
      obtain rfl := hw
      go_wp2_with fail
      refine HOK.out.mono ?_
      rintro e w4 ⟨rfl, hw⟩
      obtain rfl := hw
      go_wp2_with fail
      refine HNW.out.mono ?_
      rintro e w5 ⟨tb2, mb2, rfl, T5, b5, ht2, hm2⟩
      have HSM := Lib.hid (same_any tb mb k tb2 mb2 1 1 rootT w5 (T3'.out.below b5) T5 (by omega))
      replace b5 := b3.trans (b5.mono b3.size)
      clear T5 HNW
      go_wp2_with fail
      refine HSM.out.mono ?_
      rintro e w6 ⟨rfl, b6⟩
      replace b6 := b5.trans (b6.mono b5.size)
      go_wp2_with fail
      go_ret
      exact ⟨rfl, b6⟩
    · rw [hok] at HOK
      clear hok hd2 hdn HSO HFA T3 R3
      go_wp2_with fail
      refine HDN.out.mono ?_
      rintro e w4 ⟨rfl, hw⟩
      obtain rfl := hw
      go_wp2_with fail
      refine HOK.out.mono ?_
      rintro e w4 ⟨rfl, hw⟩
      obtain rfl := hw
      go_wp2_with fail
      go_ret
      exact ⟨rfl, b3⟩

theorem own : ownKnob Tryz.prog.godebug = none := by kernel_rfl
theorem laidOut : laidOutB Tryz.prog = true := by kernel_rfl

theorem contract (H : Type) (enc : TypeId × Value → H) (W : World) (base : Nat) (args : Array Value) (ds gs : List (DataW H)) (before : List MemPlace)
    (hval : ∀ (j : Nat) t v, Tryz.f5.params[j]? = some t → args[j]? = some v → Value.okWide Tryz.prog W .any base t v)
    (hW : DataW.Whole enc Tryz.prog Tryz.f5.params.toList Rows.treeReadsSpec.vars false W args.toList ds gs before) (hL : laidMetH Tryz.prog Rows.treeReadsRow.laid W) :
    Calls Tryz.prog 5 args W fun e W' => ∃ v, e = .returned v ∧ Rows.treeReadsSpec.post enc Tryz.prog Tryz.f5 false true false false W args v W' := by
  have hW' := hW
  obtain ⟨p, q, hA0, hV, rfl, hfz, hnd⟩ := hW
  have hA : DataW.TrodAll enc Tryz.prog W 0 (fun _ => true) true Tryz.f5.params.toList args.toList ds p := hA0
  rw [Tryz.params5] at hA hval
  obtain ⟨v0, vs0, d0, ds0, p0, q0, hargs, rfl, rfl, h0, r0⟩ := trodAll_cons hA
  obtain ⟨rfl, rfl, rfl⟩ := trodAll_nil r0
  obtain rfl : args = #[v0] := by cases args; simp_all
  obtain ⟨rfl, rfl⟩ := trodVars_none hV
  obtain ⟨a0, rfl, rfl, rfl, w0⟩ := open_string Tryz.underlying9 (hval 0 9 v0 rfl rfl) h0
  clear hA0
  refine (walk a0 W w0).mono fun e W' ⟨he, bel⟩ => ?_
  subst he
  exact ⟨_, rfl, _, _, _, [], _, [], hW', trodAll_mk1 (shut_bool Tryz.underlying4 _), (trodAll_cons_mk (shut_string Tryz.underlying9 w0) trodAll_mk0), rfl, bel.frame _, fun h => by cases h⟩

theorem laid_met (os : Os) : laidMet Tryz.prog Rows.treeReadsRow.laid ((World.laidAll Tryz.prog os Rows.treeReadsRow.laid).forCall (fun _ _ => 0) ⟨#[], #[.string ByteArray.empty], []⟩).memory :=
  laidMet_laidAll _ (by kernel_rfl) (by kernel_rfl)
theorem reads (os : Os) {H : Type} (enc : TypeId × Value → H) : ∃ places, DataW.whole enc Tryz.prog ((World.laidAll Tryz.prog os Rows.treeReadsRow.laid).forCall (fun _ _ => 0) ⟨#[], #[.string ByteArray.empty], []⟩).memory Tryz.f5.params.toList Rows.treeReadsSpec.vars false #[Value.string ByteArray.empty].toList 8 = some ([.lit (.string [])], [], places) :=
  ⟨[], by kernel_rfl⟩

set_option maxRecDepth 100000 in
theorem lifted (os : Os) (started : os.Started) (H : Type) (enc : TypeId × Value → H) (F : Stop.Interp) :
    ReturnsInHanded {} Tryz.checked os 5 .any ((OpenSpec.ofChange Rows.treeReadsSpec).preRow enc Tryz.prog Tryz.f5 Rows.treeReadsRow.domain false Rows.treeReadsRow.laid) (((OpenSpec.ofChange Rows.treeReadsSpec).at F).post enc Tryz.prog Tryz.f5 false true false false) := by
  obtain ⟨places, hx⟩ := reads os enc
  refine returnsInHanded_of_row (C := Tryz.checked) (s := OpenSpec.ofChange Rows.treeReadsSpec) own started (by kernel_rfl) Tryz.func5
    (witness_zip (enc := enc) (C := Tryz.checked) false (World.laidAll Tryz.prog os Rows.treeReadsRow.laid) #[.string ByteArray.empty] (World.laidAll_os _ _ _) (World.shaped_of_ZipB (by kernel_rfl) (by kernel_rfl)) (by kernel_rfl)
      (OpenSpec.preRow_of_cond 8 hx (by kernel_rfl) (fun k hk => by cases hk) (by kernel_rfl) (laid_met os))) ?_
  intro W base args ds gs before hval hW _ _ _ hL _ _
  exact contract H enc W base args ds gs before hval hW hL

theorem said : Rows.TreeReadsSaid :=
  OpenClaim.holds_of_cond 5 Tryz.f5 rfl rfl rfl rfl rfl rfl rfl ⟨rfl, rfl, rfl, rfl, rfl⟩ rfl rfl rfl rfl rfl (by kernel_rfl) Tryz.func5 (by kernel_rfl)
    (of_decide_eq_true (by kernel_rfl)) (by unfold Func.isWrapper; first | (rw [if_pos (by decide +kernel)]; kernel_rfl) | (rw [if_neg (by decide +kernel)]; exact ⟨rfl, rfl⟩))
    (fun os started H enc _ F => by rw [OpenClaim.pre_eq_preRow]; exact lifted os started H enc F)

theorem plain (f : FuncId) (fn : Func) (hf : Tryz.pinned.checked.prog.funcNamed "orchard/orchardlaw09.TreeReads" = some f) (hfn : Tryz.pinned.checked.prog.funcs[f]? = some fn) :
    true = Tryz.pinned.checked.prog.looks [] ∧ ∀ (j : Nat) t, fn.params[j]? = some t → Tryz.pinned.checked.prog.wantsStandIn t = false := by
  obtain rfl : f = 5 := Option.some.inj ((show Tryz.prog.funcNamed "orchard/orchardlaw09.TreeReads" = some 5 by kernel_rfl).symm.trans hf) |>.symm
  obtain rfl : fn = Tryz.f5 := (Option.some.inj (Tryz.func5.symm.trans hfn)).symm
  refine ⟨by kernel_rfl, fun j t ht => ?_⟩
  rw [Tryz.params5] at ht
  have hm := Array.mem_of_getElem? ht
  simp at hm
  subst hm
  exact (show Tryz.prog.wantsStandIn 9 = false by kernel_rfl)

theorem card : Rows.TreeReadsCardSaid :=
  Claim7.holds_tied_plain_at .later [] _ _ _ _ said (fun _ h => by cases h) (by kernel_rfl) (fun _ h => by cases h) treeReads_row_tie rfl ⟨rfl, rfl⟩ (by kernel_rfl) rfl plain (by kernel_rfl)
end Go.Proofs.YtglgnelolcmaoaaGreatDoor.treeReads
