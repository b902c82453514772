/- PathJoins: a part joined to a path is split from it again, lies below it, and two parts make two paths; no condition on the input (the listed tables lie as the program's text lays them). -/
import Derived.Test.YtoekjofilcehoaaDoorPathMath2
import Derived.Test.YtoekjofilcehoaaDoorCards
import Derived.Test.YtoekjofilcehoaaDoorTie
import Derived.ProofKit
import Derived.OpenShut
import Derived.ShutString
import Derived.ChangeOld
import Derived.Deep.DeepHandedRow
import Derived.Lib.LaidTab
import Derived.Stop.LaidErr
import Derived.Lay
namespace Go.Proofs.YtoekjofilcehoaaDoor.pathJoins
open Go.ChangeShapes Go.WideShapes Go.ChangeAt Go.RowKit
open Go.ChangeMaps (open_string shut_string)
set_option linter.unusedVariables false
set_option maxRecDepth 100000
theorem base_made (ns : List Int) : (if (bs (madeL (wsOf ns))).data.toList = [47] then [] else (bs (madeL (wsOf ns))).data.toList) = bodyL (wsOf ns) := by
  rw [bs_list]
  by_cases h : madeL (wsOf ns) = [47]
  · rw [if_pos h, (root_wsOf ns).1 h]; rfl
  · rw [if_neg h]
    have : ns ≠ [] := fun e => h ((root_wsOf ns).2 e)
    unfold madeL; rw [if_neg (by simpa [wsOf] using this)]
theorem upB_body (ns : List Int) : upB (bodyL (wsOf ns)) = madeL (wsOf ns) := by
  unfold upB madeL
  by_cases h : wsOf ns = []
  · rw [if_pos h, if_pos ((bodyL_nil _).2 h)]
  · rw [if_neg h, if_neg (fun e => h ((bodyL_nil _).1 e))]
theorem partL_facts {p : List UInt8} (h : partL p = true) : Wd p ∧ p.length ≤ 20 := by
  unfold partL at h
  simp at h
  refine ⟨⟨fun hm => ?_, fun e => by rw [e] at h; simp at h⟩, h.2.2⟩
  have := h.1 47 hm
  rw [okU_slash] at this; exact absurd this (by decide)
theorem joined_made (ns : List Int) (p : List UInt8) : bodyL (wsOf ns) ++ 47 :: p = madeL (wsOf ns ++ [p]) := by
  rw [← bodyL_snoc]; unfold madeL; rw [if_neg (by simp)]
theorem join_check (ns : List Int) (p : List UInt8) (h : partL p = true) : checkL (bodyL (wsOf ns) ++ 47 :: p) = decide ((bodyL (wsOf ns) ++ 47 :: p).length ≤ 60) := by
  have hp := partL_facts h
  have hw : ∀ w ∈ wsOf ns ++ [p], Wd w := fun w hw => by
    rcases List.mem_append.1 hw with h1 | h1
    · exact wsOf_wd ns w h1
    · rw [List.mem_singleton.1 h1]; exact hp.1
  have hq : ∀ w ∈ wsOf ns ++ [p], partL w = true := fun w hw => by
    rcases List.mem_append.1 hw with h1 | h1
    · exact wsOf_part ns w h1
    · rw [List.mem_singleton.1 h1]; exact h
  rw [joined_made]
  by_cases hl : (madeL (wsOf ns ++ [p])).length ≤ 60
  · rw [check_made hw hq hl]; simp [hl]
  · rw [checkL_off (fun e => absurd ((made_root hw).1 e) (by simp)) (fun h2 => hl h2.2)]; simp [hl]
theorem join_below (ns : List Int) (p : List UInt8) (h : partL p = true) (hn : ns.length ≤ 8) : belowL (bodyL (wsOf ns) ++ 47 :: p) (madeL (wsOf ns)) = true := by
  have hp := partL_facts h
  have hw : ∀ w ∈ wsOf ns ++ [p], Wd w := fun w hw => by
    rcases List.mem_append.1 hw with h1 | h1
    · exact wsOf_wd ns w h1
    · rw [List.mem_singleton.1 h1]; exact hp.1
  have hq : ∀ w ∈ wsOf ns ++ [p], partL w = true := fun w hw => by
    rcases List.mem_append.1 hw with h1 | h1
    · exact wsOf_part ns w h1
    · rw [List.mem_singleton.1 h1]; exact h
  have hb := bodyL_len ns
  have hl : (madeL (wsOf ns ++ [p])).length ≤ 60 := by rw [← joined_made]; simp; have := hp.2; omega
  rw [joined_made, below_made hw (wsOf_wd ns) hq hl, inB_iff]
  exact ⟨List.prefix_append _ _, by simp⟩
theorem str_eq8 (a b : ByteArray) (B : Bool) (h : B = true ↔ a.data.toList = b.data.toList) : (a.toList == b.toList) = B := by
  rw [Lib.toList_data, Lib.toList_data, Bool.eq_iff_iff, h]; simp
set_option maxHeartbeats 4000000 in
theorem walk (v0 : Value) (a : List Int) (a1 a2 : ByteArray) (w : World) (w0 : IntsR w v0 a) (w1 : a1.size ≤ maxLen) (w2 : a2.size ≤ maxLen) :
    Calls Tryd.prog 6 #[v0, .string a1, .string a2] w fun e w' => e = .returned (.bool true) ∧ Below w.heap.size w w' := by
  have HH := Lib.hid (head8_any w)
  have i0 := w0.1
  have HMA := Lib.hid (fun (W : World) (hb : Below w.heap.size w W) (h : a.length ≤ 1000) => made_any v0 a W (i0.below hb) h w0.2)
  obtain ⟨xa, xc, hva, _⟩ := i0
  obtain ⟨p, hp⟩ : ∃ p, p = a1 := ⟨_, rfl⟩
  obtain ⟨q, hq⟩ : ∃ q, q = a2 := ⟨_, rfl⟩
  subst hp hq
  subst hva
  have hm1 := w1
  have hm2 := w2
  unfold maxLen at hm1 hm2
  have HQ := Lib.hid (fun W : World => part8_any p W w1)
  clear w0 w1 w2
  by_cases ha : 8 < a.length
  · have d1 : decide ((8 : Int) < (a.length : Int)) = true := by simp; omega
    go_enter Tryd.func6, Tryd.ntmps6
    go_wp2_with fail
    refine HH.out.mono ?_
    rintro e w1 ⟨rfl, hb⟩
    go_wp2_with fail
    go_ret
    exact ⟨rfl, hb⟩
  have d1 : decide ((8 : Int) < (a.length : Int)) = false := by simp; omega
  by_cases hb : 60 < p.size
  · have d2 : decide ((60 : Int) < (p.size : Int)) = true := by simp; omega
    go_enter Tryd.func6, Tryd.ntmps6
    go_wp2_with fail
    refine HH.out.mono ?_
    rintro e w1 ⟨rfl, hb⟩
    go_wp2_with fail
    go_ret
    exact ⟨rfl, hb⟩
  have d2 : decide ((60 : Int) < (p.size : Int)) = false := by simp; omega
  by_cases hc : 60 < q.size
  · have d3 : decide ((60 : Int) < (q.size : Int)) = true := by simp; omega
    go_enter Tryd.func6, Tryd.ntmps6
    go_wp2_with fail
    refine HH.out.mono ?_
    rintro e w1 ⟨rfl, hb⟩
    go_wp2_with fail
    go_ret
    exact ⟨rfl, hb⟩
  have d3 : decide ((60 : Int) < (q.size : Int)) = false := by simp; omega
  have la : a.length ≤ 8 := by omega
  have lp : p.size ≤ 60 := by omega
  have lq : q.size ≤ 60 := by omega
  clear ha hb hc hm1 hm2
  have hml := made_len a
  obtain ⟨s, hs⟩ : ∃ s, s = bs (madeL (wsOf a)) := ⟨_, rfl⟩
  obtain ⟨x, hx⟩ : ∃ x, x = bs (bodyL (wsOf a) ++ 47 :: p.data.toList) := ⟨_, rfl⟩
  obtain ⟨y, hy⟩ : ∃ y, y = bs (bodyL (wsOf a) ++ 47 :: q.data.toList) := ⟨_, rfl⟩
  have hss : s.size ≤ 100 := by rw [hs, bs_size]; omega
  have HJ1 : Hid (∀ W : World, Calls Tryd.prog 15 #[.string s, .string p] W fun e w' => e = .returned (.string x) ∧ w' = W) := Lib.hid (fun W => by
    have := join_any s p W (by omega) (by omega)
    rw [hs, base_made] at this; rw [hs, hx]; exact this)
  have HJ2 : Hid (∀ W : World, Calls Tryd.prog 15 #[.string s, .string q] W fun e w' => e = .returned (.string y) ∧ w' = W) := Lib.hid (fun W => by
    have := join_any s q W (by omega) (by omega)
    rw [hs, base_made] at this; rw [hs, hy]; exact this)
  obtain ⟨B, hB⟩ : ∃ B : Bool, B = true ↔ p.data.toList = q.data.toList := ⟨decide (p.data.toList = q.data.toList), by simp⟩
  have e1 : (p.toList == q.toList) = B := str_eq8 p q B hB
  have e2 : (x.toList == y.toList) = B := str_eq8 x y B (by rw [hB, hx, hy, bs_list, bs_list]; simp)
  have HX := Lib.hid hx
  have HS := Lib.hid hs
  clear hx hy hs hB
  cases hpl : partL p.data.toList
  · have HPL := Lib.hid hpl
    clear hpl
    go_enter Tryd.func6, Tryd.ntmps6
    go_wp2_with fail
    refine HH.out.mono ?_
    rintro e w1 ⟨rfl, b1⟩
    go_wp2_with fail
    refine (HMA.out _ b1 (by omega)).mono ?_
    rintro e w2 ⟨rfl, b2⟩
    rw [← HS.out]
    replace b2 := b1.trans (b2.mono b1.size)
    go_wp2_with fail
    refine (HJ1.out _).mono ?_
    rintro e w3 ⟨rfl, rfl⟩
    go_wp2_with fail
    refine (HJ2.out _).mono ?_
    rintro e w4 ⟨rfl, rfl⟩
    go_wp2_with fail
    refine (HQ.out _).mono ?_
    rintro e w5 ⟨rfl, rfl⟩
    rw [HPL.out]
    go_wp2_with fail
    go_ret
    exact ⟨rfl, b2⟩
  · have HPL := Lib.hid hpl
    have hf := partL_facts hpl
    have HU : Hid (∀ W : World, Calls Tryd.prog 14 #[.string x] W fun e w' => e = .returned (.tuple #[.string s, .string p]) ∧ ∃ n, w' = W.drewN n) := Lib.hid (fun W => by
      have := up_any (bodyL (wsOf a)) p.data.toList W hf.1.1 (by have := bodyL_len a; omega) (by have := hf.2; omega) (fun _ => hf.1.2)
      rw [upB_body, bs_of] at this; rw [HX.out, HS.out]; exact this)
    have HBL : Hid (belowL x.data.toList s.data.toList = true) := Lib.hid (by rw [HX.out, HS.out, bs_list, bs_list]; exact join_below a _ hpl la)
    obtain ⟨C, hC⟩ : ∃ C, C = decide (x.data.toList.length ≤ 60) := ⟨_, rfl⟩
    have HCK : Hid (checkE x.data.toList = if C then 0 else 10) := Lib.hid (by rw [hC]; unfold checkE; rw [HX.out, bs_list, join_check a _ hpl])
    have d4 : decide ((x.size : Int) ≤ 60) = C := by rw [hC, ← Lib.size_eq, Bool.eq_iff_iff]; simp; omega
    have e3 : (s.toList == s.toList) = true := by simp
    have e4 : (p.toList == p.toList) = true := by simp
    clear hC hpl hf
    go_enter Tryd.func6, Tryd.ntmps6
    go_wp2_with fail
    refine HH.out.mono ?_
    rintro e w1 ⟨rfl, b1⟩
    go_wp2_with fail
    refine (HMA.out _ b1 (by omega)).mono ?_
    rintro e w2 ⟨rfl, b2⟩
    rw [← HS.out]
    replace b2 := b1.trans (b2.mono b1.size)
    go_wp2_with fail
    refine (HJ1.out _).mono ?_
    rintro e w3 ⟨rfl, rfl⟩
    go_wp2_with fail
    refine (HJ2.out _).mono ?_
    rintro e w4 ⟨rfl, rfl⟩
    go_wp2_with fail
    refine (HQ.out _).mono ?_
    rintro e w5 ⟨rfl, rfl⟩
    rw [HPL.out]
    go_wp2_with fail
    refine (HU.out _).mono ?_
    rintro e w6 ⟨rfl, n6, hw6⟩
    have b6 : Below w.heap.size w w6 := by rw [hw6]; exact b2.trans ⟨rfl, rfl, rfl, Nat.le_refl _, fun _ _ => rfl⟩
    clear hw6
    go_wp2_with fail
    refine (below_any x s _).mono ?_
    rintro e w7 ⟨rfl, b7⟩
    rw [HBL.out]
    replace b7 := b6.trans (b7.mono b6.size)
    go_wp2_with fail
    refine (check_any x _).mono ?_
    rintro e w8 ⟨rfl, b8⟩
    rw [HCK.out]
    replace b8 := b7.trans (b8.mono b7.size)
    cases C
    all_goals
      simp only [Bool.false_eq_true, ↓reduceIte]
      go_wp2_with fail
      go_ret
      exact ⟨by simp, b8⟩

theorem own : ownKnob Tryd.prog.godebug = none := by kernel_rfl
theorem laidOut : laidOutB Tryd.prog = true := by kernel_rfl

theorem contract (H : Type) (enc : TypeId × Value → H) (W : World) (base : Nat) (args : Array Value) (ds gs : List (DataW H)) (before : List MemPlace)
    (hval : ∀ (j : Nat) t v, Tryd.f6.params[j]? = some t → args[j]? = some v → Value.okWide Tryd.prog W .any base t v)
    (hW : DataW.Whole enc Tryd.prog Tryd.f6.params.toList Rows.pathJoinsSpec.vars false W args.toList ds gs before) (hL : laidMetH Tryd.prog Rows.pathJoinsRow.laid W) :
    Calls Tryd.prog 6 args W fun e W' => ∃ v, e = .returned v ∧ Rows.pathJoinsSpec.post enc Tryd.prog Tryd.f6 false true false false W args v W' := by
  have hW' := hW
  obtain ⟨p, q, hA0, hV, rfl, hfz, hnd⟩ := hW
  have hA : DataW.TrodAll enc Tryd.prog W 0 (fun _ => true) true Tryd.f6.params.toList args.toList ds p := hA0
  rw [Tryd.params6] at hA hval
  obtain ⟨v0, vs0, d0, ds0, p0, q0, hargs, rfl, rfl, h0, r0⟩ := trodAll_cons hA
  obtain ⟨v1, vs1, d1, ds1, p1, q1, rfl, rfl, rfl, h1, r1⟩ := trodAll_cons r0
  obtain ⟨v2, vs2, d2, ds2, p2, q2, rfl, rfl, rfl, h2, r2⟩ := trodAll_cons r1
  obtain ⟨rfl, rfl, rfl⟩ := trodAll_nil r2
  obtain rfl : args = #[v0, v1, v2] := by cases args; simp_all
  obtain ⟨rfl, rfl⟩ := trodVars_none hV
  have k0 := h0
  have lt0 : ∀ x ∈ p0, x.block < W.heap.size := by obtain ⟨m, hm⟩ := k0; exact DataW.trod_lt m _ _ _ hm
  obtain ⟨z0, w0⟩ := ints_of (hval 0 26 v0 rfl rfl) h0
  obtain ⟨a1, rfl, rfl, rfl, w1⟩ := open_string Tryd.underlying9 (hval 1 9 v1 rfl rfl) h1
  obtain ⟨a2, rfl, rfl, rfl, w2⟩ := open_string Tryd.underlying9 (hval 2 9 v2 rfl rfl) h2
  clear hA0
  refine (walk v0 z0 a1 a2 W w0 w1 w2).mono fun e W' ⟨he, bel⟩ => ?_
  subst he
  exact ⟨_, rfl, _, _, _, [], _, [], hW', trodAll_mk1 (shut_bool Tryd.underlying4 _), (trodAll_cons_mk (Below.trod laidOut (by kernel_rfl) (of_decide_eq_true (by kernel_rfl)) k0 bel lt0) (trodAll_cons_mk (shut_string Tryd.underlying9 w1) (trodAll_cons_mk (shut_string Tryd.underlying9 w2) trodAll_mk0))), rfl, bel.frame _, fun h => by cases h⟩

theorem laid_met (os : Os) : laidMet Tryd.prog Rows.pathJoinsRow.laid ((World.laidAll Tryd.prog os Rows.pathJoinsRow.laid).forCall (fun _ _ => 0) ⟨#[], #[.slice none 0 0, .string ByteArray.empty, .string ByteArray.empty], []⟩).memory :=
  laidMet_laidAll _ (by kernel_rfl) (by kernel_rfl)
theorem reads (os : Os) {H : Type} (enc : TypeId × Value → H) : ∃ places, DataW.whole enc Tryd.prog ((World.laidAll Tryd.prog os Rows.pathJoinsRow.laid).forCall (fun _ _ => 0) ⟨#[], #[.slice none 0 0, .string ByteArray.empty, .string ByteArray.empty], []⟩).memory Tryd.f6.params.toList Rows.pathJoinsSpec.vars false #[Value.slice none 0 0, Value.string ByteArray.empty, Value.string ByteArray.empty].toList 8 = some ([.nil, .lit (.string []), .lit (.string [])], [], places) :=
  ⟨[], by kernel_rfl⟩

set_option maxRecDepth 100000 in
theorem lifted (os : Os) (started : os.Started) (H : Type) (enc : TypeId × Value → H) (F : Stop.Interp) :
    ReturnsInHanded {} Tryd.checked os 6 .any ((OpenSpec.ofChange Rows.pathJoinsSpec).preRow enc Tryd.prog Tryd.f6 Rows.pathJoinsRow.domain false Rows.pathJoinsRow.laid) (((OpenSpec.ofChange Rows.pathJoinsSpec).at F).post enc Tryd.prog Tryd.f6 false true false false) := by
  obtain ⟨places, hx⟩ := reads os enc
  refine returnsInHanded_of_row (C := Tryd.checked) (s := OpenSpec.ofChange Rows.pathJoinsSpec) own started (by kernel_rfl) Tryd.func6
    (witness_zip (enc := enc) (C := Tryd.checked) false (World.laidAll Tryd.prog os Rows.pathJoinsRow.laid) #[.slice none 0 0, .string ByteArray.empty, .string ByteArray.empty] (World.laidAll_os _ _ _) (World.shaped_of_ZipB (by kernel_rfl) (by kernel_rfl)) (by kernel_rfl)
      (OpenSpec.preRow_of_cond 8 hx (by kernel_rfl) (fun k hk => by cases hk) (by kernel_rfl) (laid_met os))) ?_
  intro W base args ds gs before hval hW _ _ _ hL _ _
  exact contract H enc W base args ds gs before hval hW hL

theorem said : Rows.PathJoinsSaid :=
  OpenClaim.holds_of_cond 6 Tryd.f6 rfl rfl rfl rfl rfl rfl rfl ⟨rfl, rfl, rfl, rfl, rfl⟩ rfl rfl rfl rfl rfl (by kernel_rfl) Tryd.func6 (by kernel_rfl)
    (of_decide_eq_true (by kernel_rfl)) (by unfold Func.isWrapper; first | (rw [if_pos (by decide +kernel)]; kernel_rfl) | (rw [if_neg (by decide +kernel)]; exact ⟨rfl, rfl⟩))
    (fun os started H enc _ F => by rw [OpenClaim.pre_eq_preRow]; exact lifted os started H enc F)

theorem plain (f : FuncId) (fn : Func) (hf : Tryd.pinned.checked.prog.funcNamed "orchard/orchardlaw08.PathJoins" = some f) (hfn : Tryd.pinned.checked.prog.funcs[f]? = some fn) :
    true = Tryd.pinned.checked.prog.looks [] ∧ ∀ (j : Nat) t, fn.params[j]? = some t → Tryd.pinned.checked.prog.wantsStandIn t = false := by
  obtain rfl : f = 6 := Option.some.inj ((show Tryd.prog.funcNamed "orchard/orchardlaw08.PathJoins" = some 6 by kernel_rfl).symm.trans hf) |>.symm
  obtain rfl : fn = Tryd.f6 := (Option.some.inj (Tryd.func6.symm.trans hfn)).symm
  refine ⟨by kernel_rfl, fun j t ht => ?_⟩
  rw [Tryd.params6] at ht
  have hm := Array.mem_of_getElem? ht
  simp at hm
  rcases hm with rfl | rfl
  · exact (show Tryd.prog.wantsStandIn 26 = false by kernel_rfl)
  · exact (show Tryd.prog.wantsStandIn 9 = false by kernel_rfl)

theorem card : Rows.PathJoinsCardSaid :=
  Claim7.holds_tied_plain_at .later [] _ _ _ _ said (fun _ h => by cases h) (by kernel_rfl) (fun _ h => by cases h) pathJoins_row_tie rfl ⟨rfl, rfl⟩ (by kernel_rfl) rfl plain (by kernel_rfl)
end Go.Proofs.YtoekjofilcehoaaDoor.pathJoins
