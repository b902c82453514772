/- PathOrders: what is below what goes on from one path to the next, never both ways, and all but the root are below the root; no condition on the input (the listed tables lie as the program's text lays them). -/
import Derived.Test.YtoekjofilcehoaaDoorPathMath2
import Derived.Test.YtoekjofilcehoaaDoorCards
import Derived.Test.YtoekjofilcehoaaDoorTie
import Derived.ProofKit
import Derived.OpenShut
import Derived.ShutString
import Derived.ChangeOld
import Derived.Deep.DeepHandedRow
import Derived.Lib.LaidTab
import Derived.Stop.LaidErr
import Derived.Lay
namespace Go.Proofs.YtoekjofilcehoaaDoor.pathOrders
open Go.ChangeShapes Go.WideShapes Go.ChangeAt Go.RowKit
open Go.ChangeMaps (open_string shut_string)
set_option linter.unusedVariables false
set_option maxRecDepth 100000
set_option maxHeartbeats 4000000 in
theorem walk (v0 : Value) (a : List Int) (v1 : Value) (b : List Int) (v2 : Value) (c : List Int) (w : World) (w0 : IntsR w v0 a) (w1 : IntsR w v1 b) (w2 : IntsR w v2 c) :
    Calls Tryd.prog 8 #[v0, v1, v2] w fun e w' => e = .returned (.bool true) ∧ Below w.heap.size w w' := by
  have HH := Lib.hid (head8_any w)
  have i0 := w0.1
  have i1 := w1.1
  have i2 := w2.1
  have HMA := Lib.hid (fun (W : World) (hb : Below w.heap.size w W) (h : a.length ≤ 1000) => made_any v0 a W (i0.below hb) h w0.2)
  have HMB := Lib.hid (fun (W : World) (hb : Below w.heap.size w W) (h : b.length ≤ 1000) => made_any v1 b W (i1.below hb) h w1.2)
  have HMC := Lib.hid (fun (W : World) (hb : Below w.heap.size w W) (h : c.length ≤ 1000) => made_any v2 c W (i2.below hb) h w2.2)
  obtain ⟨xa, xc, hva, _⟩ := i0
  obtain ⟨ya, yc, hvb, _⟩ := i1
  obtain ⟨za, zc, hvc, _⟩ := i2
  clear w0 w1 w2
  subst hva hvb hvc
  by_cases ha : 8 < a.length
  · have d1 : decide ((8 : Int) < (a.length : Int)) = true := by simp; omega
    go_enter Tryd.func8, Tryd.ntmps8
    go_wp2_with fail
    refine HH.out.mono ?_
    rintro e w1 ⟨rfl, hb⟩
    go_wp2_with fail
    go_ret
    exact ⟨rfl, hb⟩
  have d1 : decide ((8 : Int) < (a.length : Int)) = false := by simp; omega
  by_cases hb : 8 < b.length
  · have d2 : decide ((8 : Int) < (b.length : Int)) = true := by simp; omega
    go_enter Tryd.func8, Tryd.ntmps8
    go_wp2_with fail
    refine HH.out.mono ?_
    rintro e w1 ⟨rfl, hb⟩
    go_wp2_with fail
    go_ret
    exact ⟨rfl, hb⟩
  have d2 : decide ((8 : Int) < (b.length : Int)) = false := by simp; omega
  by_cases hc : 8 < c.length
  · have d3 : decide ((8 : Int) < (c.length : Int)) = true := by simp; omega
    go_enter Tryd.func8, Tryd.ntmps8
    go_wp2_with fail
    refine HH.out.mono ?_
    rintro e w1 ⟨rfl, hb⟩
    go_wp2_with fail
    go_ret
    exact ⟨rfl, hb⟩
  have d3 : decide ((8 : Int) < (c.length : Int)) = false := by simp; omega
  have la : a.length ≤ 8 := by omega
  have lb : b.length ≤ 8 := by omega
  have lc : c.length ≤ 8 := by omega
  clear ha hb hc
  obtain ⟨x, hx⟩ : ∃ x, x = bs (madeL (wsOf a)) := ⟨_, rfl⟩
  obtain ⟨y, hy⟩ : ∃ y, y = bs (madeL (wsOf b)) := ⟨_, rfl⟩
  obtain ⟨z, hz⟩ : ∃ z, z = bs (madeL (wsOf c)) := ⟨_, rfl⟩
  have bxy : belowL x.data.toList y.data.toList = inB (wsOf a) (wsOf b) := by rw [hx, hy, bs_list, bs_list]; exact below_wsOf a b (by omega)
  have byz : belowL y.data.toList z.data.toList = inB (wsOf b) (wsOf c) := by rw [hy, hz, bs_list, bs_list]; exact below_wsOf b c (by omega)
  have bxz : belowL x.data.toList z.data.toList = inB (wsOf a) (wsOf c) := by rw [hx, hz, bs_list, bs_list]; exact below_wsOf a c (by omega)
  have byx : belowL y.data.toList x.data.toList = inB (wsOf b) (wsOf a) := by rw [hx, hy, bs_list, bs_list]; exact below_wsOf b a (by omega)
  have hr1 : belowL x.data.toList [47] = inB (wsOf a) [] := by
    have := below_wsOf a [] (by omega); rw [hx, bs_list]; exact this
  have hr : ∃ R : Bool, inB (wsOf a) [] = R ∧ (x.toList == [47]) = !R := by
    by_cases h0 : a = []
    · subst h0; exact ⟨false, rfl, by rw [hx]; exact eq_true (bs_list _)⟩
    · refine ⟨true, ?_, by rw [hx]; exact eq_false (by rw [bs_list]; exact fun e => h0 ((root_wsOf a).1 e))⟩
      rw [inB_iff]; exact ⟨List.nil_prefix, by cases a <;> simp_all [wsOf]⟩
  obtain ⟨R, hR1, hR2⟩ := hr
  rw [hR1] at hr1
  have hR3 : (x.toList != [47]) = R := by rw [bne, hR2]; simp
  have tr := inB_trans (a := wsOf a) (b := wsOf b) (c := wsOf c)
  have an := inB_anti (a := wsOf a) (b := wsOf b)
  have HX := Lib.hid hx
  have HY := Lib.hid hy
  have HZ := Lib.hid hz
  clear hx hy hz hR1
  generalize inB (wsOf a) (wsOf b) = B1 at *
  generalize inB (wsOf b) (wsOf c) = B2 at *
  generalize inB (wsOf a) (wsOf c) = B3 at *
  generalize inB (wsOf b) (wsOf a) = B4 at *
  have HB1 := Lib.hid bxy
  have HB2 := Lib.hid byz
  have HB3 := Lib.hid bxz
  have HB4 := Lib.hid byx
  have HB5 := Lib.hid hr1
  clear bxy byz bxz byx hr1
  go_enter Tryd.func8, Tryd.ntmps8
  go_wp2_with fail
  refine HH.out.mono ?_
  rintro e w1 ⟨rfl, b1⟩
  go_wp2_with fail
  refine (HMA.out _ b1 (by omega)).mono ?_
  rintro e w2 ⟨rfl, b2⟩
  rw [← HX.out]
  replace b2 := b1.trans (b2.mono b1.size)
  go_wp2_with fail
  refine (HMB.out _ b2 (by omega)).mono ?_
  rintro e w3 ⟨rfl, b3⟩
  rw [← HY.out]
  replace b3 := b2.trans (b3.mono b2.size)
  go_wp2_with fail
  refine (HMC.out _ b3 (by omega)).mono ?_
  rintro e w4 ⟨rfl, b4⟩
  rw [← HZ.out]
  replace b4 := b3.trans (b4.mono b3.size)
  clear b1 b2 b3
  go_wp2_with fail
  refine (below_any x y _).mono ?_
  rintro e w5 ⟨rfl, b5⟩
  rw [HB1.out]
  replace b5 := b4.trans (b5.mono b4.size)
  clear b4
  cases B1
  · have _t := HX
    go_wp2_with fail
    refine (below_any x y _).mono ?_
    rintro e w6 ⟨rfl, b6⟩
    rw [HB1.out]
    replace b6 := b5.trans (b6.mono b5.size)
    clear b5
    go_wp2_with fail
    refine (below_any x (bs [47]) _).mono ?_
    rintro e w7 ⟨rfl, b7⟩
    rw [bs_list, HB5.out]
    replace b7 := b6.trans (b7.mono b6.size)
    clear b6
    go_wp2_with fail
    go_ret
    exact ⟨by first | rfl | (cases R <;> rfl), b7⟩
  · have a4 : B4 = false := an rfl
    subst a4
    cases B2
    · have _t := HX
      go_wp2_with fail
      refine (below_any y z _).mono ?_
      rintro e w6 ⟨rfl, b6⟩
      rw [HB2.out]
      replace b6 := b5.trans (b6.mono b5.size)
      clear b5
      go_wp2_with fail
      refine (below_any x y _).mono ?_
      rintro e w7 ⟨rfl, b7⟩
      rw [HB1.out]
      replace b7 := b6.trans (b7.mono b6.size)
      clear b6
      go_wp2_with fail
      refine (below_any y x _).mono ?_
      rintro e w8 ⟨rfl, b8⟩
      rw [HB4.out]
      replace b8 := b7.trans (b8.mono b7.size)
      clear b7
      go_wp2_with fail
      refine (below_any x (bs [47]) _).mono ?_
      rintro e w9 ⟨rfl, b9⟩
      rw [bs_list, HB5.out]
      replace b9 := b8.trans (b9.mono b8.size)
      clear b8
      go_wp2_with fail
      go_ret
      exact ⟨by first | rfl | (cases R <;> rfl), b9⟩
    · have a3 : B3 = true := tr rfl rfl
      subst a3
      go_wp2_with fail
      refine (below_any y z _).mono ?_
      rintro e w6 ⟨rfl, b6⟩
      rw [HB2.out]
      replace b6 := b5.trans (b6.mono b5.size)
      clear b5
      go_wp2_with fail
      refine (below_any x z _).mono ?_
      rintro e w7 ⟨rfl, b7⟩
      rw [HB3.out]
      replace b7 := b6.trans (b7.mono b6.size)
      clear b6
      go_wp2_with fail
      refine (below_any x y _).mono ?_
      rintro e w8 ⟨rfl, b8⟩
      rw [HB1.out]
      replace b8 := b7.trans (b8.mono b7.size)
      clear b7
      go_wp2_with fail
      refine (below_any y x _).mono ?_
      rintro e w9 ⟨rfl, b9⟩
      rw [HB4.out]
      replace b9 := b8.trans (b9.mono b8.size)
      clear b8
      go_wp2_with fail
      refine (below_any x (bs [47]) _).mono ?_
      rintro e w10 ⟨rfl, b10⟩
      rw [bs_list, HB5.out]
      replace b10 := b9.trans (b10.mono b9.size)
      clear b9
      go_wp2_with fail
      go_ret
      exact ⟨by first | rfl | (cases R <;> rfl), b10⟩

theorem own : ownKnob Tryd.prog.godebug = none := by kernel_rfl
theorem laidOut : laidOutB Tryd.prog = true := by kernel_rfl

theorem contract (H : Type) (enc : TypeId × Value → H) (W : World) (base : Nat) (args : Array Value) (ds gs : List (DataW H)) (before : List MemPlace)
    (hval : ∀ (j : Nat) t v, Tryd.f8.params[j]? = some t → args[j]? = some v → Value.okWide Tryd.prog W .any base t v)
    (hW : DataW.Whole enc Tryd.prog Tryd.f8.params.toList Rows.pathOrdersSpec.vars false W args.toList ds gs before) (hL : laidMetH Tryd.prog Rows.pathOrdersRow.laid W) :
    Calls Tryd.prog 8 args W fun e W' => ∃ v, e = .returned v ∧ Rows.pathOrdersSpec.post enc Tryd.prog Tryd.f8 false true false false W args v W' := by
  have hW' := hW
  obtain ⟨p, q, hA0, hV, rfl, hfz, hnd⟩ := hW
  have hA : DataW.TrodAll enc Tryd.prog W 0 (fun _ => true) true Tryd.f8.params.toList args.toList ds p := hA0
  rw [Tryd.params8] at hA hval
  obtain ⟨v0, vs0, d0, ds0, p0, q0, hargs, rfl, rfl, h0, r0⟩ := trodAll_cons hA
  obtain ⟨v1, vs1, d1, ds1, p1, q1, rfl, rfl, rfl, h1, r1⟩ := trodAll_cons r0
  obtain ⟨v2, vs2, d2, ds2, p2, q2, rfl, rfl, rfl, h2, r2⟩ := trodAll_cons r1
  obtain ⟨rfl, rfl, rfl⟩ := trodAll_nil r2
  obtain rfl : args = #[v0, v1, v2] := by cases args; simp_all
  obtain ⟨rfl, rfl⟩ := trodVars_none hV
  have k0 := h0
  have lt0 : ∀ x ∈ p0, x.block < W.heap.size := by obtain ⟨m, hm⟩ := k0; exact DataW.trod_lt m _ _ _ hm
  obtain ⟨z0, w0⟩ := ints_of (hval 0 26 v0 rfl rfl) h0
  have k1 := h1
  have lt1 : ∀ x ∈ p1, x.block < W.heap.size := by obtain ⟨m, hm⟩ := k1; exact DataW.trod_lt m _ _ _ hm
  obtain ⟨z1, w1⟩ := ints_of (hval 1 26 v1 rfl rfl) h1
  have k2 := h2
  have lt2 : ∀ x ∈ p2, x.block < W.heap.size := by obtain ⟨m, hm⟩ := k2; exact DataW.trod_lt m _ _ _ hm
  obtain ⟨z2, w2⟩ := ints_of (hval 2 26 v2 rfl rfl) h2
  clear hA0
  refine (walk v0 z0 v1 z1 v2 z2 W w0 w1 w2).mono fun e W' ⟨he, bel⟩ => ?_
  subst he
  exact ⟨_, rfl, _, _, _, [], _, [], hW', trodAll_mk1 (shut_bool Tryd.underlying4 _), (trodAll_cons_mk (Below.trod laidOut (by kernel_rfl) (of_decide_eq_true (by kernel_rfl)) k0 bel lt0) (trodAll_cons_mk (Below.trod laidOut (by kernel_rfl) (of_decide_eq_true (by kernel_rfl)) k1 bel lt1) (trodAll_cons_mk (Below.trod laidOut (by kernel_rfl) (of_decide_eq_true (by kernel_rfl)) k2 bel lt2) trodAll_mk0))), rfl, bel.frame _, fun h => by cases h⟩

theorem laid_met (os : Os) : laidMet Tryd.prog Rows.pathOrdersRow.laid ((World.laidAll Tryd.prog os Rows.pathOrdersRow.laid).forCall (fun _ _ => 0) ⟨#[], #[.slice none 0 0, .slice none 0 0, .slice none 0 0], []⟩).memory :=
  laidMet_laidAll _ (by kernel_rfl) (by kernel_rfl)
theorem reads (os : Os) {H : Type} (enc : TypeId × Value → H) : ∃ places, DataW.whole enc Tryd.prog ((World.laidAll Tryd.prog os Rows.pathOrdersRow.laid).forCall (fun _ _ => 0) ⟨#[], #[.slice none 0 0, .slice none 0 0, .slice none 0 0], []⟩).memory Tryd.f8.params.toList Rows.pathOrdersSpec.vars false #[Value.slice none 0 0, Value.slice none 0 0, Value.slice none 0 0].toList 8 = some ([.nil, .nil, .nil], [], places) :=
  ⟨[], by kernel_rfl⟩

set_option maxRecDepth 100000 in
theorem lifted (os : Os) (started : os.Started) (H : Type) (enc : TypeId × Value → H) (F : Stop.Interp) :
    ReturnsInHanded {} Tryd.checked os 8 .any ((OpenSpec.ofChange Rows.pathOrdersSpec).preRow enc Tryd.prog Tryd.f8 Rows.pathOrdersRow.domain false Rows.pathOrdersRow.laid) (((OpenSpec.ofChange Rows.pathOrdersSpec).at F).post enc Tryd.prog Tryd.f8 false true false false) := by
  obtain ⟨places, hx⟩ := reads os enc
  refine returnsInHanded_of_row (C := Tryd.checked) (s := OpenSpec.ofChange Rows.pathOrdersSpec) own started (by kernel_rfl) Tryd.func8
    (witness_zip (enc := enc) (C := Tryd.checked) false (World.laidAll Tryd.prog os Rows.pathOrdersRow.laid) #[.slice none 0 0, .slice none 0 0, .slice none 0 0] (World.laidAll_os _ _ _) (World.shaped_of_ZipB (by kernel_rfl) (by kernel_rfl)) (by kernel_rfl)
      (OpenSpec.preRow_of_cond 8 hx (by kernel_rfl) (fun k hk => by cases hk) (by kernel_rfl) (laid_met os))) ?_
  intro W base args ds gs before hval hW _ _ _ hL _ _
  exact contract H enc W base args ds gs before hval hW hL

theorem said : Rows.PathOrdersSaid :=
  OpenClaim.holds_of_cond 8 Tryd.f8 rfl rfl rfl rfl rfl rfl rfl ⟨rfl, rfl, rfl, rfl, rfl⟩ rfl rfl rfl rfl rfl (by kernel_rfl) Tryd.func8 (by kernel_rfl)
    (of_decide_eq_true (by kernel_rfl)) (by unfold Func.isWrapper; first | (rw [if_pos (by decide +kernel)]; kernel_rfl) | (rw [if_neg (by decide +kernel)]; exact ⟨rfl, rfl⟩))
    (fun os started H enc _ F => by rw [OpenClaim.pre_eq_preRow]; exact lifted os started H enc F)

theorem plain (f : FuncId) (fn : Func) (hf : Tryd.pinned.checked.prog.funcNamed "orchard/orchardlaw08.PathOrders" = some f) (hfn : Tryd.pinned.checked.prog.funcs[f]? = some fn) :
    true = Tryd.pinned.checked.prog.looks [] ∧ ∀ (j : Nat) t, fn.params[j]? = some t → Tryd.pinned.checked.prog.wantsStandIn t = false := by
  obtain rfl : f = 8 := Option.some.inj ((show Tryd.prog.funcNamed "orchard/orchardlaw08.PathOrders" = some 8 by kernel_rfl).symm.trans hf) |>.symm
  obtain rfl : fn = Tryd.f8 := (Option.some.inj (Tryd.func8.symm.trans hfn)).symm
  refine ⟨by kernel_rfl, fun j t ht => ?_⟩
  rw [Tryd.params8] at ht
  have hm := Array.mem_of_getElem? ht
  simp at hm
  subst hm
  exact (show Tryd.prog.wantsStandIn 26 = false by kernel_rfl)

theorem card : Rows.PathOrdersCardSaid :=
  Claim7.holds_tied_plain_at .later [] _ _ _ _ said (fun _ h => by cases h) (by kernel_rfl) (fun _ h => by cases h) pathOrders_row_tie rfl ⟨rfl, rfl⟩ (by kernel_rfl) rfl plain (by kernel_rfl)
end Go.Proofs.YtoekjofilcehoaaDoor.pathOrders
