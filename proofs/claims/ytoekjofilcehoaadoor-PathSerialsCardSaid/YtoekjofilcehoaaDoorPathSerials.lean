/- PathSerials: the numbers behind a path have ten digits, are read back and stand in their order; no condition on the input (the listed tables lie as the program's text lays them). -/
import Derived.Test.YtoekjofilcehoaaDoorPathNumH
import Derived.Test.YtoekjofilcehoaaDoorCards
import Derived.Test.YtoekjofilcehoaaDoorTie
import Derived.ProofKit
import Derived.OpenShut
import Derived.ShutString
import Derived.ChangeOld
import Derived.Deep.DeepHandedRow
import Derived.Lib.LaidTab
import Derived.Stop.LaidErr
import Derived.Lay
namespace Go.Proofs.YtoekjofilcehoaaDoor.pathSerials
open Go.ChangeShapes Go.WideShapes Go.ChangeAt Go.RowKit
open Go.ChangeMaps (open_string shut_string)
set_option linter.unusedVariables false
set_option maxRecDepth 100000
theorem gP10Type : (Tryd.prog.globals[5]?).map (·.type) = some 104 := by kernel_rfl
theorem cellsP10 : Tryd.prog.cellsOf 104 = 20 := by kernel_rfl
theorem cellsU64 : Tryd.prog.cellsOf 76 = 1 := by kernel_rfl
theorem p10_of {W : World} (h : laidMetH Tryd.prog Rows.pathSerialsRow.laid W) : P10 W :=
  Lib.tabIs_of_head (rest := [("strconv.ErrRange", Rows.laid_strconv_ErrRange), ("strconv.ErrSyntax", Rows.laid_strconv_ErrSyntax)]) gP10 gP10Type Tryd.underlying104 Tryd.underlying76 cellsU64 cellsP10 (laidMet.tail (laidMet.tail (show laidMet Tryd.prog [("math/bits.deBruijn32tab", Rows.laid_math_bits_deBruijn32tab), ("math/bits.deBruijn64tab", Rows.laid_math_bits_deBruijn64tab), ("internal/strconv.uint64pow10", Rows.laid_internal_strconv_uint64pow10), ("strconv.ErrRange", Rows.laid_strconv_ErrRange), ("strconv.ErrSyntax", Rows.laid_strconv_ErrSyntax)] W from h)))
theorem i64_mask30 (n : Int) : bits .and .i64 n 1073741823 = n % 1073741824 := by
  have h127 : (BitVec.ofInt 64 1073741823).toNat = 2 ^ 30 - 1 := by decide
  have key : (BitVec.ofInt 64 n &&& BitVec.ofInt 64 1073741823).toNat = (n % ((2 ^ 64 : Nat) : Int)).toNat % 2 ^ 30 := by
    rw [BitVec.toNat_and, BitVec.toNat_ofInt, h127, Nat.and_two_pow_sub_one_eq_mod]
  show IntKind.i64.wrap ((BitVec.ofInt 64 n &&& BitVec.ofInt 64 1073741823).toNat : Nat) = n % 1073741824
  rw [key, IntKind.wrap_i64]
  omega
set_option maxHeartbeats 4000000 in
theorem walk (v0 : Value) (a : List Int) (a1 a2 : Int) (w : World) (w0 : IntsR w v0 a) (w1 : (Lit.int .i64 a1).wf = true) (w2 : (Lit.int .i64 a2).wf = true) (hL : laidMetH Tryd.prog Rows.pathSerialsRow.laid w) :
    Calls Tryd.prog 5 #[v0, .int .i64 a1, .int .i64 a2] w fun e w' => e = .returned (.bool true) ∧ Below w.heap.size w w' := by
  have hT := p10_of hL
  have HH := Lib.hid (head8_any w)
  have i0 := w0.1
  have HMA := Lib.hid (fun (W : World) (hb : Below w.heap.size w W) (h : a.length ≤ 1000) => made_any v0 a W (i0.below hb) h w0.2)
  obtain ⟨xa, xc, hva, _⟩ := i0
  subst hva
  clear w0 w1 w2 hL
  have HT := Lib.hid hT
  clear hT
  by_cases ha : 8 < a.length
  · have d1 : decide ((8 : Int) < (a.length : Int)) = true := by simp; omega
    go_enter Tryd.func5, Tryd.ntmps5
    go_wp2_with fail
    refine HH.out.mono ?_
    rintro e w1 ⟨rfl, hb⟩
    go_wp2_with fail
    go_ret
    exact ⟨rfl, hb⟩
  have d1 : decide ((8 : Int) < (a.length : Int)) = false := by simp; omega
  have la : a.length ≤ 8 := by omega
  obtain ⟨n, hn30, hn⟩ : ∃ n : Nat, n < 1073741824 ∧ bits .and .i64 a1 1073741823 = (n : Int) := ⟨(a1 % 1073741824).toNat, by omega, by rw [i64_mask30]; omega⟩
  obtain ⟨m, hm30, hm⟩ : ∃ m : Nat, m < 1073741824 ∧ bits .and .i64 a2 1073741823 = (m : Int) := ⟨(a2 % 1073741824).toNat, by omega, by rw [i64_mask30]; omega⟩
  have hml := made_len a
  obtain ⟨s, hs⟩ : ∃ s, s = bs (madeL (wsOf a)) := ⟨_, rfl⟩
  have hss : s.size ≤ 100 := by rw [hs, bs_size]; omega
  obtain ⟨x, hx⟩ : ∃ x, x = bs (s.data.toList ++ dig 10 n) := ⟨_, rfl⟩
  obtain ⟨y, hy⟩ : ∃ y, y = bs (s.data.toList ++ dig 10 m) := ⟨_, rfl⟩
  obtain ⟨z, hz⟩ : ∃ z, z = bs (s.data.toList ++ dig 10 0) := ⟨_, rfl⟩
  have hn10 : n < 10 ^ 10 := by omega
  have hm10 : m < 10 ^ 10 := by omega
  have S1 : Hid (∀ W : World, P10 W → Calls Tryd.prog 17 #[.string s, .int .i64 (n : Int)] W fun e w' => e = .returned (.string x) ∧ Below W.heap.size W w') := Lib.hid (fun W h => by rw [hx]; exact serial_any s _ n W (by omega) (by omega) hn10 h)
  have S2 : Hid (∀ W : World, P10 W → Calls Tryd.prog 17 #[.string s, .int .i64 (m : Int)] W fun e w' => e = .returned (.string y) ∧ Below W.heap.size W w') := Lib.hid (fun W h => by rw [hy]; exact serial_any s _ m W (by omega) (by omega) hm10 h)
  have S3 : Hid (∀ W : World, P10 W → Calls Tryd.prog 17 #[.string s, .int .i64 (-1 - (n : Int))] W fun e w' => e = .returned (.string z) ∧ Below W.heap.size W w') := Lib.hid (fun W h => by rw [hz]; exact serial_any s _ 0 W (by omega) (by omega) (by decide) h)
  have S4 : Hid (∀ W : World, P10 W → Calls Tryd.prog 17 #[.string s, .int .i64 0] W fun e w' => e = .returned (.string z) ∧ Below W.heap.size W w') := Lib.hid (fun W h => by rw [hz]; exact serial_any s _ 0 W (by omega) (by omega) (by decide) h)
  have hxs : x.size = s.size + 10 := by rw [hx, bs_size, Lib.size_eq]; simp [dig_len]
  have hex : x.extract s.size x.size = bs (dig 10 n) := by
    rw [hx]; exact ext_suf _ _ _ _ (by rw [Lib.size_eq]) (by rw [bs_size]; exact Nat.le_refl _)
  have HAT : Hid (∀ W : World, Calls Tryd.prog 18 #[.string (bs (dig 10 n))] W fun e w' => e = .returned (.tuple #[.int .i64 (n : Int), .nilIface]) ∧ Below W.heap.size W w') := Lib.hid (fun W => by
    refine (Tryd.strconv_Atoi (bs (dig 10 n)) (n : Int) (by rw [bs_size, dig_len]; omega) (by rw [bs_list]; exact atoi_dig 9 n hn10) W).mono ?_
    rintro e w' ⟨rfl, t, rfl⟩
    exact ⟨rfl, rfl, rfl, rfl, by rw [Lib.bytesWorld_size]; omega, fun k hk => Lib.bytesWorld_at_old W _ t k hk⟩)
  obtain ⟨B, hB⟩ : ∃ B, B = decide (n < m) := ⟨_, rfl⟩
  have hlt1 : Op.bytesLess x.toList y.toList = B := by rw [Lib.toList_data, Lib.toList_data, hx, hy, bs_list, bs_list, less_front, less_dig 10 n m hn10 hm10, hB]
  have hlt2 : decide (n < m) = B := hB.symm
  have hlt3 : decide ((n : Int) < (m : Int)) = B := by rw [hB, Bool.eq_iff_iff]; simp
  have ezz : (z.toList == z.toList) = true := by simp
  have HS := Lib.hid hs
  have HX := Lib.hid hx
  have HE := Lib.hid hex
  have HXS := Lib.hid hxs
  have q1 : (s.size : Int) ≤ (x.size : Int) := by omega
  have q2 : s.size ≤ x.size := by omega
  have q3 : x.size ≤ 200 := by omega
  have q4 : ((x.size : Int) == (s.size : Int) + 10) = true := by simp; omega
  clear hs hx hy hz hex hxs hB ha hn10 hm10
  go_enter Tryd.func5, Tryd.ntmps5
  go_wp2_with fail
  refine HH.out.mono ?_
  rintro e w1 ⟨rfl, b1⟩
  go_wp2_with fail
  refine (HMA.out _ b1 (by omega)).mono ?_
  rintro e w2 ⟨rfl, b2⟩
  rw [← HS.out]
  replace b2 := b1.trans (b2.mono b1.size)
  go_wp2_with fail
  refine (S1.out _ (HT.out.below b2)).mono ?_
  rintro e w3 ⟨rfl, b3⟩
  replace b3 := b2.trans (b3.mono b2.size)
  go_wp2_with fail
  refine (S2.out _ (HT.out.below b3)).mono ?_
  rintro e w4 ⟨rfl, b4⟩
  replace b4 := b3.trans (b4.mono b3.size)
  go_wp2_with fail
  rw [HE.out]
  refine (HAT.out _).mono ?_
  rintro e w5 ⟨rfl, b5⟩
  replace b5 := b4.trans (b5.mono b4.size)
  go_wp2_with fail
  refine (S3.out _ (HT.out.below b5)).mono ?_
  rintro e w6 ⟨rfl, b6⟩
  replace b6 := b5.trans (b6.mono b5.size)
  go_wp2_with fail
  refine (S4.out _ (HT.out.below b6)).mono ?_
  rintro e w7 ⟨rfl, b7⟩
  replace b7 := b6.trans (b7.mono b6.size)
  go_wp2_with fail
  go_ret
  exact ⟨by simp, b7⟩

theorem own : ownKnob Tryd.prog.godebug = none := by kernel_rfl
theorem laidOut : laidOutB Tryd.prog = true := by kernel_rfl

theorem contract (H : Type) (enc : TypeId × Value → H) (W : World) (base : Nat) (args : Array Value) (ds gs : List (DataW H)) (before : List MemPlace)
    (hval : ∀ (j : Nat) t v, Tryd.f5.params[j]? = some t → args[j]? = some v → Value.okWide Tryd.prog W .any base t v)
    (hW : DataW.Whole enc Tryd.prog Tryd.f5.params.toList Rows.pathSerialsSpec.vars false W args.toList ds gs before) (hL : laidMetH Tryd.prog Rows.pathSerialsRow.laid W) :
    Calls Tryd.prog 5 args W fun e W' => ∃ v, e = .returned v ∧ Rows.pathSerialsSpec.post enc Tryd.prog Tryd.f5 false true false false W args v W' := by
  have hW' := hW
  obtain ⟨p, q, hA0, hV, rfl, hfz, hnd⟩ := hW
  have hA : DataW.TrodAll enc Tryd.prog W 0 (fun _ => true) true Tryd.f5.params.toList args.toList ds p := hA0
  rw [Tryd.params5] at hA hval
  obtain ⟨v0, vs0, d0, ds0, p0, q0, hargs, rfl, rfl, h0, r0⟩ := trodAll_cons hA
  obtain ⟨v1, vs1, d1, ds1, p1, q1, rfl, rfl, rfl, h1, r1⟩ := trodAll_cons r0
  obtain ⟨v2, vs2, d2, ds2, p2, q2, rfl, rfl, rfl, h2, r2⟩ := trodAll_cons r1
  obtain ⟨rfl, rfl, rfl⟩ := trodAll_nil r2
  obtain rfl : args = #[v0, v1, v2] := by cases args; simp_all
  obtain ⟨rfl, rfl⟩ := trodVars_none hV
  have k0 := h0
  have lt0 : ∀ x ∈ p0, x.block < W.heap.size := by obtain ⟨m, hm⟩ := k0; exact DataW.trod_lt m _ _ _ hm
  obtain ⟨z0, w0⟩ := ints_of (hval 0 26 v0 rfl rfl) h0
  obtain ⟨a1, rfl, rfl, rfl, w1⟩ := open_int Tryd.underlying3 (hval 1 3 v1 rfl rfl) h1
  obtain ⟨a2, rfl, rfl, rfl, w2⟩ := open_int Tryd.underlying3 (hval 2 3 v2 rfl rfl) h2
  clear hA0
  refine (walk v0 z0 a1 a2 W w0 w1 w2 hL).mono fun e W' ⟨he, bel⟩ => ?_
  subst he
  exact ⟨_, rfl, _, _, _, [], _, [], hW', trodAll_mk1 (shut_bool Tryd.underlying4 _), (trodAll_cons_mk (Below.trod laidOut (by kernel_rfl) (of_decide_eq_true (by kernel_rfl)) k0 bel lt0) (trodAll_cons_mk (shut_int Tryd.underlying3 w1) (trodAll_cons_mk (shut_int Tryd.underlying3 w2) trodAll_mk0))), rfl, bel.frame _, fun h => by cases h⟩

theorem laid_met (os : Os) : laidMet Tryd.prog Rows.pathSerialsRow.laid ((World.laidAll Tryd.prog os Rows.pathSerialsRow.laid).forCall (fun _ _ => 0) ⟨#[], #[.slice none 0 0, .int .i64 0, .int .i64 0], []⟩).memory :=
  laidMet_laidAll _ (by kernel_rfl) (by kernel_rfl)
theorem reads (os : Os) {H : Type} (enc : TypeId × Value → H) : ∃ places, DataW.whole enc Tryd.prog ((World.laidAll Tryd.prog os Rows.pathSerialsRow.laid).forCall (fun _ _ => 0) ⟨#[], #[.slice none 0 0, .int .i64 0, .int .i64 0], []⟩).memory Tryd.f5.params.toList Rows.pathSerialsSpec.vars false #[Value.slice none 0 0, Value.int .i64 0, Value.int .i64 0].toList 8 = some ([.nil, .lit (.int .i64 0), .lit (.int .i64 0)], [], places) :=
  ⟨[], by kernel_rfl⟩

set_option maxRecDepth 100000 in
theorem lifted (os : Os) (started : os.Started) (H : Type) (enc : TypeId × Value → H) (F : Stop.Interp) :
    ReturnsInHanded {} Tryd.checked os 5 .any ((OpenSpec.ofChange Rows.pathSerialsSpec).preRow enc Tryd.prog Tryd.f5 Rows.pathSerialsRow.domain false Rows.pathSerialsRow.laid) (((OpenSpec.ofChange Rows.pathSerialsSpec).at F).post enc Tryd.prog Tryd.f5 false true false false) := by
  obtain ⟨places, hx⟩ := reads os enc
  refine returnsInHanded_of_row (C := Tryd.checked) (s := OpenSpec.ofChange Rows.pathSerialsSpec) own started (by kernel_rfl) Tryd.func5
    (witness_zip (enc := enc) (C := Tryd.checked) false (World.laidAll Tryd.prog os Rows.pathSerialsRow.laid) #[.slice none 0 0, .int .i64 0, .int .i64 0] (World.laidAll_os _ _ _) (World.shaped_of_ZipB (by kernel_rfl) (by kernel_rfl)) (by kernel_rfl)
      (OpenSpec.preRow_of_cond 8 hx (by kernel_rfl) (fun k hk => by cases hk) (by kernel_rfl) (laid_met os))) ?_
  intro W base args ds gs before hval hW _ _ _ hL _ _
  exact contract H enc W base args ds gs before hval hW hL

theorem said : Rows.PathSerialsSaid :=
  OpenClaim.holds_of_cond 5 Tryd.f5 rfl rfl rfl rfl rfl rfl rfl ⟨rfl, rfl, rfl, rfl, rfl⟩ rfl rfl rfl rfl rfl (by kernel_rfl) Tryd.func5 (by kernel_rfl)
    (of_decide_eq_true (by kernel_rfl)) (by unfold Func.isWrapper; first | (rw [if_pos (by decide +kernel)]; kernel_rfl) | (rw [if_neg (by decide +kernel)]; exact ⟨rfl, rfl⟩))
    (fun os started H enc _ F => by rw [OpenClaim.pre_eq_preRow]; exact lifted os started H enc F)

theorem plain (f : FuncId) (fn : Func) (hf : Tryd.pinned.checked.prog.funcNamed "orchard/orchardlaw08.PathSerials" = some f) (hfn : Tryd.pinned.checked.prog.funcs[f]? = some fn) :
    true = Tryd.pinned.checked.prog.looks [] ∧ ∀ (j : Nat) t, fn.params[j]? = some t → Tryd.pinned.checked.prog.wantsStandIn t = false := by
  obtain rfl : f = 5 := Option.some.inj ((show Tryd.prog.funcNamed "orchard/orchardlaw08.PathSerials" = some 5 by kernel_rfl).symm.trans hf) |>.symm
  obtain rfl : fn = Tryd.f5 := (Option.some.inj (Tryd.func5.symm.trans hfn)).symm
  refine ⟨by kernel_rfl, fun j t ht => ?_⟩
  rw [Tryd.params5] at ht
  have hm := Array.mem_of_getElem? ht
  simp at hm
  rcases hm with rfl | rfl
  · exact (show Tryd.prog.wantsStandIn 26 = false by kernel_rfl)
  · exact (show Tryd.prog.wantsStandIn 3 = false by kernel_rfl)

theorem card : Rows.PathSerialsCardSaid :=
  Claim7.holds_tied_plain_at .later [] _ _ _ _ said (fun _ h => by cases h) (by kernel_rfl) (fun _ h => by cases h) pathSerials_row_tie rfl ⟨rfl, rfl⟩ (by kernel_rfl) rfl plain (by kernel_rfl)
end Go.Proofs.YtoekjofilcehoaaDoor.pathSerials
