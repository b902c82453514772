/- OpMade: commands of operations: each as it was given; no condition on the input. -/
import Derived.Test.YtkdbkbfloiponaaDoorOpTouch
import Derived.Test.YtkdbkbfloiponaaDoorCards
import Derived.Test.YtkdbkbfloiponaaDoorTie
import Derived.ProofKit
import Derived.OpenShut
import Derived.ShutString
import Derived.ChangeOld
import Derived.Deep.DeepHandedRow
import Derived.Lib.LaidTab
import Derived.Stop.LaidErr
import Derived.Lay
namespace Go.Proofs.YtkdbkbfloiponaaDoor.opMade
open Go.ChangeShapes Go.WideShapes Go.ChangeAt Go.RowKit
open Go.ChangeMaps (open_string shut_string)
set_option linter.unusedVariables false
set_option maxRecDepth 100000
theorem getD_getD {α : Type} {L : List α} {d : α} {j : Nat} {x : α} (h : L[j]? = some x) : L.getD j d = x := by rw [List.getD_eq_getElem?_getD, h]; rfl
set_option maxHeartbeats 8000000 in
theorem walk (a0 a1 : Int) (v2 : Value) (L : List Opr) (w : World) (w0 : (Lit.int .i64 a0).wf = true) (w1 : (Lit.int .i64 a1).wf = true) (w2 : OpsR w v2 L) :
    Calls Tryd.prog 4 #[.int .i64 a0, .int .i64 a1, v2] w fun e w' => e = .returned (.bool true) ∧ Below w.heap.size w w' := by
  have HH := Lib.hid (head_any w)
  have HO := Lib.hid w2
  have hb0 := inR_of w0
  have hb1 := inR_of w1
  have HOKL : Hid (∀ z ∈ L, z.Ok) := Lib.hid (by obtain ⟨_, _, _, _, h, _⟩ := w2; exact h)
  obtain ⟨a, cap, rfl, hLm⟩ := (show ∃ a cap, v2 = .slice a L.length cap ∧ L.length ≤ maxLen by obtain ⟨a, cap, h1, h2, _⟩ := w2; exact ⟨a, cap, h1, h2⟩)
  unfold maxLen at hLm
  clear w2 w0 w1
  by_cases hl : 10 < L.length
  · have d1 : decide ((10 : Int) < (L.length : Int)) = true := by simp; omega
    go_enter Tryd.func4, Tryd.ntmps4
    go_wp2_with fail
    refine HH.out.mono ?_
    rintro e w1 ⟨rfl, b1⟩
    go_wp2_with fail
    go_ret
    exact ⟨rfl, b1⟩
  have d1 : decide ((10 : Int) < (L.length : Int)) = false := by simp; omega
  have hl10 : L.length ≤ 10 := by omega
  have HMD := Lib.hid (fun (W : World) (hW : Below w.heap.size w W) => made_any a0 a1 (.slice a L.length cap) L W (HO.out.below hW) (by omega))
  have HCV : Hid (∀ v, cmV v (madeC a0 a1 L) = .agg #[.int .i64 3, .int .i64 a0, .int .i64 a1, .int .i64 0, v, .string ⟨#[]⟩, .bool false, .bool false]) := Lib.hid (fun v => rfl)
  have HCM : Hid (∀ v, cmA v (madeC a0 a1 L) = #[.int .i64 3, .int .i64 a0, .int .i64 a1, .int .i64 0, v, .string ⟨#[]⟩, .bool false, .bool false]) := Lib.hid (fun v => rfl)
  clear hl
  go_enter Tryd.func4, Tryd.ntmps4
  go_wp2_with fail
  refine HH.out.mono ?_
  rintro e w1 ⟨rfl, b1⟩
  clear HH
  go_wp2_with fail
  refine (HMD.out _ b1).mono ?_
  rintro e w2 ⟨v, rfl, O2, b2⟩
  have bB := b1.trans (b2.mono b1.size)
  have R2 := O2.opsR (by unfold maxLen; omega) HOKL.out
  obtain ⟨a2, c2, rfl, _⟩ := O2.form
  have bN := (Below.refl _ w2).alloc (Nat.le_refl _) (.cells (cmA (.slice a2 L.length c2) (madeC a0 a1 L)) 25)
  have K3 := CmB.new w2 (.slice a2 L.length c2) (madeC a0 a1 L)
  have R3 := R2.below bN
  have bC := bB.trans (bN.mono bB.size)
  rw [HCV.out]
  clear HMD b1 b2 O2 bB R2 bN
  go_upto_region 6 with fail
  obtain ⟨w3, hw3⟩ : ∃ w3, w3 = w2.alloc (.cells (cmA (.slice a2 L.length c2) (madeC a0 a1 L)) 25) := ⟨_, rfl⟩
  have hw3' := hw3
  rw [HCM.out] at hw3'
  rw [← hw3] at K3 R3 bC
  rw [← hw3']
  obtain ⟨cb, hcb⟩ : ∃ cb, cb = w2.heap.size := ⟨_, rfl⟩
  rw [← hcb] at K3 ⊢
  obtain ⟨⟨c0, c1, c2', c3, c4, c5, c6, c7⟩, _⟩ := K3.cells
  simp only [madeC] at c0 c1 c2' c3 c5 c6 c7
  have HK := Lib.hid K3
  have HR := Lib.hid R3
  have hcs : cb < w3.heap.size := K3.lt
  clear hw3 hw3' hcb K3 R3
  go_wp2_with fail
  clear c0 c1 c2' c3 c4 c5 c6 c7
  go_loopw [8, 63] (fun tv iv wr => ∃ j : Nat, j ≤ L.length ∧ iv = .int .i64 j ∧ tv = .bool ((L.take j).all chkO) ∧ Below w3.heap.size w3 wr) (fun _ iv _ => L.length - (intOf iv).toNat)
  case atStart => exact ⟨0, Nat.zero_le _, rfl, by simp, Below.refl _ _⟩
  case round =>
    obtain ⟨j, hj, rfl, rfl, hb⟩ := hrel
    by_cases hlt : j < L.length
    · obtain ⟨hok, g, off, rfl, h0, h1, h2, h3, h4, h5⟩ := HO.out.at (bC.trans (hb.mono bC.size)) hlt
      obtain ⟨_, g', off', rfl, y0, y1, y2, y3, y4, y5⟩ := HR.out.at hb hlt
      have K4 := HK.out.below hb
      have x4 := K4.cells.1.2.2.2.2.1
      have HTK := Lib.hid (show (L.take (j + 1)).all chkO = ((L.take j).all chkO && chkO (L.getD j Opr.zero)) by rw [take_snoc_getD L Opr.zero j hlt, List.all_append]; simp)
      have t2 : IntKind.i64.wrap ((j : Int) + 1) = (j : Int) + 1 := IntWalk.i64_in _ (by omega)
      obtain ⟨z, hz⟩ : ∃ z, z = L.getD j Opr.zero := ⟨_, rfl⟩
      rw [← hz] at h0 h1 h2 h3 h4 h5 y0 y1 y2 y3 y4 y5 HTK
      clear hz hok K4
      have hj0 : (0 : Int) ≤ (j : Int) := by omega
      have hji : (j : Int) < (L.length : Int) := by omega
      have hjl : (L.length : Int) ≤ 10 := by omega
      have bB := hb.alloc hb.size (.cells (opA z) 35)
      have bN := (Below.refl _ wr).alloc (Nat.le_refl _) (.cells (opA z) 35)
      have Z6 := OpB.new wr z
      have HCE := Lib.hid (checkE_chk z)
      have q := fun W => eq_op z W
      unfold opV at q
      have hgl : g' < wr.heap.size := by
        have := World.block_lt_of_cell? wr _ y0; exact this
      have hcl : cb < wr.heap.size := Nat.lt_of_lt_of_le hcs hb.size
      have y0' := (bN.cell (p := ⟨g', off' + j * 6, none⟩) hgl).trans y0
      have y1' := (bN.cell (p := ⟨g', off' + j * 6 + 1, none⟩) hgl).trans y1
      have y2' := (bN.cell (p := ⟨g', off' + j * 6 + 2, none⟩) hgl).trans y2
      have y3' := (bN.cell (p := ⟨g', off' + j * 6 + 3, none⟩) hgl).trans y3
      have y4' := (bN.cell (p := ⟨g', off' + j * 6 + 4, none⟩) hgl).trans y4
      have y5' := (bN.cell (p := ⟨g', off' + j * 6 + 5, none⟩) hgl).trans y5
      have x4' := (bN.cell (p := ⟨cb, 4, none⟩) hcl).trans x4
      obtain ⟨⟨z0, z1, z2, z3, z4, z5⟩, _⟩ := Z6.cells
      obtain ⟨zk, zp, zt, zv, zs, zo⟩ := z
      simp only [opA] at h0 h1 h2 h3 h4 h5 bB HCE q y0' y1' y2' y3' y4' y5' x4' z0 z1 z2 z3 z4 z5
      clear y0 y1 y2 y3 y4 y5 x4 bN Z6
      go_upto_region 12 with fail
      obtain ⟨w6, hw6⟩ : ∃ w6, w6 = wr.alloc (.cells #[.int .i64 zk, .string zp, .string zt, .int .i64 zv, .bool zs, .bool zo] 35) := ⟨_, rfl⟩
      rw [← hw6] at bB y0' y1' y2' y3' y4' y5' x4' z0 z1 z2 z3 z4 z5 ⊢
      obtain ⟨zb, hzb⟩ : ∃ zb, zb = wr.heap.size := ⟨_, rfl⟩
      rw [← hzb] at z0 z1 z2 z3 z4 z5 ⊢
      clear hw6 hzb h0 h1 h2 h3 h4 h5 hgl hcl
      obtain ⟨ce, hce⟩ : ∃ ce, ce = checkE zp.data.toList := ⟨_, rfl⟩
      have HC := Lib.hid (fun W : World => check_any zp W)
      rw [← hce] at HC HCE
      have HBN := Lib.hid (fun n : Nat => bB.trans ((drewN_below w6 n).mono bB.size))
      clear hce
      obtain ⟨T, hT⟩ : ∃ T, T = (L.take j).all chkO := ⟨_, rfl⟩
      rw [← hT] at HTK ⊢
      clear hT
      cases T with
      | true =>
        cases hr : chkO ⟨zk, zp, zt, zv, zs, zo⟩ with
        | true =>
          have hc0 : ce = 0 := by have := HCE.out; rw [hr] at this; simpa using this
          subst hc0
          have HT2 : Hid ((L.take (j + 1)).all chkO = true) := Lib.hid (by rw [HTK.out, hr]; rfl)
          clear HTK HCE hr
          go_quiet (fail)
          go_wp2_with fail
          refine (HC.out _).mono ?_
          rintro e w7 ⟨rfl, b7⟩
          have bZ := (HBN.out _).trans (b7.mono (HBN.out _).size)
          clear b7
          go_wp2_with fail
          go_roundw
          case rel => exact ⟨j + 1, by omega, by go_num, by rw [HT2.out], bZ⟩
          case measure => simp [intOf]; omega
        | false =>
          have hc0 : (ce == 0) = false := by have := HCE.out; rw [hr] at this; exact this
          have HT2 : Hid ((L.take (j + 1)).all chkO = false) := Lib.hid (by rw [HTK.out, hr]; rfl)
          clear HTK HCE hr
          go_quiet (fail)
          go_wp2_with fail
          refine (HC.out _).mono ?_
          rintro e w7 ⟨rfl, b7⟩
          have bZ := (HBN.out _).trans (b7.mono (HBN.out _).size)
          clear b7
          go_wp2_with fail
          go_roundw
          case rel => exact ⟨j + 1, by omega, by go_num, by rw [HT2.out], bZ⟩
          case measure => simp [intOf]; omega
      | false =>
        have HT2 : Hid ((L.take (j + 1)).all chkO = false) := Lib.hid (by rw [HTK.out]; rfl)
        clear HTK HCE
        go_quiet (fail)
        go_wp2_with fail
        go_roundw
        case rel => exact ⟨j + 1, by omega, by go_num, by rw [HT2.out], HBN.out _⟩
        case measure => simp [intOf]; omega
    · obtain rfl : j = L.length := by omega
      rw [List.take_length]
      have hlt2 : decide ((L.length : Int) < (L.length : Int)) = false := by simp
      have bD := bC.trans (hb.mono bC.size)
      have K4 := HK.out.below hb
      have R4 := HR.out.below hb
      have hOk : (madeC a0 a1 L).Ok := ⟨by unfold InR madeC; simp only; omega, hb0, hb1, by unfold InR madeC; simp only; omega, by show 0 ≤ maxLen; exact Nat.zero_le _⟩
      have HTC := Lib.hid (touches_any (.slice a2 L.length c2) (madeC a0 a1 L) wr ⟨hOk, _, rfl, R4⟩)
      rw [HCV.out, show (madeC a0 a1 L).ops = L from rfl] at HTC
      obtain ⟨⟨c0, c1, c2', c3, c4, c5, c6, c7⟩, _⟩ := K4.cells
      simp only [madeC] at c0 c1 c2' c3 c5 c6 c7
      clear K4 R4 hOk
      generalize L.all chkO = T at *
      have ee : (T == T) = true := by simp
      go_wp2_with fail
      refine HTC.out.mono ?_
      rintro e w4 ⟨rfl, b4⟩
      go_wp2_with fail
      go_ret
      exact ⟨by simp, bD.trans (b4.mono bD.size)⟩

theorem own : ownKnob Tryd.prog.godebug = none := by kernel_rfl
theorem laidOut : laidOutB Tryd.prog = true := by kernel_rfl

theorem contract (H : Type) (enc : TypeId × Value → H) (W : World) (base : Nat) (args : Array Value) (ds gs : List (DataW H)) (before : List MemPlace)
    (hval : ∀ (j : Nat) t v, Tryd.f4.params[j]? = some t → args[j]? = some v → Value.okWide Tryd.prog W .any base t v)
    (hW : DataW.Whole enc Tryd.prog Tryd.f4.params.toList Rows.opMadeSpec.vars false W args.toList ds gs before) (hL : laidMetH Tryd.prog Rows.opMadeRow.laid W) :
    Calls Tryd.prog 4 args W fun e W' => ∃ v, e = .returned v ∧ Rows.opMadeSpec.post enc Tryd.prog Tryd.f4 false true false false W args v W' := by
  have hW' := hW
  obtain ⟨p, q, hA0, hV, rfl, hfz, hnd⟩ := hW
  have hA : DataW.TrodAll enc Tryd.prog W 0 (fun _ => true) true Tryd.f4.params.toList args.toList ds p := hA0
  rw [Tryd.params4] at hA hval
  obtain ⟨v0, vs0, d0, ds0, p0, q0, hargs, rfl, rfl, h0, r0⟩ := trodAll_cons hA
  obtain ⟨v1, vs1, d1, ds1, p1, q1, rfl, rfl, rfl, h1, r1⟩ := trodAll_cons r0
  obtain ⟨v2, vs2, d2, ds2, p2, q2, rfl, rfl, rfl, h2, r2⟩ := trodAll_cons r1
  obtain ⟨rfl, rfl, rfl⟩ := trodAll_nil r2
  obtain rfl : args = #[v0, v1, v2] := by cases args; simp_all
  obtain ⟨rfl, rfl⟩ := trodVars_none hV
  obtain ⟨a0, rfl, rfl, rfl, w0⟩ := open_int Tryd.underlying3 (hval 0 3 v0 rfl rfl) h0
  obtain ⟨a1, rfl, rfl, rfl, w1⟩ := open_int Tryd.underlying3 (hval 1 3 v1 rfl rfl) h1
  have k2 := h2
  have lt2 : ∀ x ∈ p2, x.block < W.heap.size := by obtain ⟨m, hm⟩ := k2; exact DataW.trod_lt m _ _ _ hm
  obtain ⟨z2, w2⟩ := ops_of (hval 2 23 v2 rfl rfl) h2
  clear hA0
  refine (walk a0 a1 v2 z2 W w0 w1 w2).mono fun e W' ⟨he, bel⟩ => ?_
  subst he
  exact ⟨_, rfl, _, _, _, [], _, [], hW', trodAll_mk1 (shut_bool Tryd.underlying4 _), (trodAll_cons_mk (shut_int Tryd.underlying3 w0) (trodAll_cons_mk (shut_int Tryd.underlying3 w1) (trodAll_cons_mk (Below.trod laidOut (by kernel_rfl) (of_decide_eq_true (by kernel_rfl)) k2 bel lt2) trodAll_mk0))), rfl, bel.frame _, fun h => by cases h⟩

theorem laid_met (os : Os) : laidMet Tryd.prog Rows.opMadeRow.laid ((World.laidAll Tryd.prog os Rows.opMadeRow.laid).forCall (fun _ _ => 0) ⟨#[], #[.int .i64 0, .int .i64 0, .slice none 0 0], []⟩).memory :=
  laidMet_laidAll _ (by kernel_rfl) (by kernel_rfl)
theorem reads (os : Os) {H : Type} (enc : TypeId × Value → H) : ∃ places, DataW.whole enc Tryd.prog ((World.laidAll Tryd.prog os Rows.opMadeRow.laid).forCall (fun _ _ => 0) ⟨#[], #[.int .i64 0, .int .i64 0, .slice none 0 0], []⟩).memory Tryd.f4.params.toList Rows.opMadeSpec.vars false #[Value.int .i64 0, Value.int .i64 0, Value.slice none 0 0].toList 8 = some ([.lit (.int .i64 0), .lit (.int .i64 0), .nil], [], places) :=
  ⟨[], by kernel_rfl⟩

set_option maxRecDepth 100000 in
theorem lifted (os : Os) (started : os.Started) (H : Type) (enc : TypeId × Value → H) (F : Stop.Interp) :
    ReturnsInHanded {} Tryd.checked os 4 .any ((OpenSpec.ofChange Rows.opMadeSpec).preRow enc Tryd.prog Tryd.f4 Rows.opMadeRow.domain false Rows.opMadeRow.laid) (((OpenSpec.ofChange Rows.opMadeSpec).at F).post enc Tryd.prog Tryd.f4 false true false false) := by
  obtain ⟨places, hx⟩ := reads os enc
  refine returnsInHanded_of_row (C := Tryd.checked) (s := OpenSpec.ofChange Rows.opMadeSpec) own started (by kernel_rfl) Tryd.func4
    (witness_zip (enc := enc) (C := Tryd.checked) false (World.laidAll Tryd.prog os Rows.opMadeRow.laid) #[.int .i64 0, .int .i64 0, .slice none 0 0] (World.laidAll_os _ _ _) (World.shaped_of_ZipB (by kernel_rfl) (by kernel_rfl)) (by kernel_rfl)
      (OpenSpec.preRow_of_cond 8 hx (by kernel_rfl) (fun k hk => by cases hk) (by kernel_rfl) (laid_met os))) ?_
  intro W base args ds gs before hval hW _ _ _ hL _ _
  exact contract H enc W base args ds gs before hval hW hL

theorem said : Rows.OpMadeSaid :=
  OpenClaim.holds_of_cond 4 Tryd.f4 rfl rfl rfl rfl rfl rfl rfl ⟨rfl, rfl, rfl, rfl, rfl⟩ rfl rfl rfl rfl rfl (by kernel_rfl) Tryd.func4 (by kernel_rfl)
    (of_decide_eq_true (by kernel_rfl)) (by unfold Func.isWrapper; first | (rw [if_pos (by decide +kernel)]; kernel_rfl) | (rw [if_neg (by decide +kernel)]; exact ⟨rfl, rfl⟩))
    (fun os started H enc _ F => by rw [OpenClaim.pre_eq_preRow]; exact lifted os started H enc F)

theorem plain (f : FuncId) (fn : Func) (hf : Tryd.pinned.checked.prog.funcNamed "orchard/orchardlaw12.OpMade" = some f) (hfn : Tryd.pinned.checked.prog.funcs[f]? = some fn) :
    false = Tryd.pinned.checked.prog.looks [] ∧ ∀ (j : Nat) t, fn.params[j]? = some t → Tryd.pinned.checked.prog.wantsStandIn t = false := by
  obtain rfl : f = 4 := Option.some.inj ((show Tryd.prog.funcNamed "orchard/orchardlaw12.OpMade" = some 4 by kernel_rfl).symm.trans hf) |>.symm
  obtain rfl : fn = Tryd.f4 := (Option.some.inj (Tryd.func4.symm.trans hfn)).symm
  refine ⟨by kernel_rfl, fun j t ht => ?_⟩
  rw [Tryd.params4] at ht
  have hm := Array.mem_of_getElem? ht
  simp at hm
  rcases hm with rfl | rfl
  · exact (show Tryd.prog.wantsStandIn 3 = false by kernel_rfl)
  · exact (show Tryd.prog.wantsStandIn 23 = false by kernel_rfl)

theorem card : Rows.OpMadeCardSaid :=
  Claim7.holds_tied_plain_at .later [] _ _ _ _ said (fun _ h => by cases h) (by kernel_rfl) (fun _ h => by cases h) opMade_row_tie rfl ⟨rfl, rfl⟩ (by kernel_rfl) rfl plain (by kernel_rfl)
end Go.Proofs.YtkdbkbfloiponaaDoor.opMade
