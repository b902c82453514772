/- PathChecks: a text is a path just where its parts are parts, and Part says which; no condition on the input (the listed tables lie as the program's text lays them). -/
import Derived.Test.YtoekjofilcehoaaDoorPathMath2
import Derived.Test.YtoekjofilcehoaaDoorCards
import Derived.Test.YtoekjofilcehoaaDoorTie
import Derived.ProofKit
import Derived.OpenShut
import Derived.ShutString
import Derived.ChangeOld
import Derived.Deep.DeepHandedRow
import Derived.Lib.LaidTab
import Derived.Stop.LaidErr
import Derived.Lay
namespace Go.Proofs.YtoekjofilcehoaaDoor.pathChecks
open Go.ChangeShapes Go.WideShapes Go.ChangeAt Go.RowKit
open Go.ChangeMaps (open_string shut_string)
set_option linter.unusedVariables false
set_option maxRecDepth 100000
theorem checks_math (l : List UInt8) (h1 : 1 ≤ l.length) (hr : l ≠ [47]) : ((decide (1 < l.length) && (decide (l.head? = some 47) && decide (l.length ≤ 60))) && run8 [] (l.drop 1)) = checkL l := by
  rw [run8_all]
  unfold checkL
  cases l with
  | nil => simp at h1
  | cons a r =>
    by_cases ha : a = 47
    · subst ha
      have hr2 : r ≠ [] := by simpa using hr
      have : 0 < r.length := by cases r with
        | nil => exact absurd rfl hr2
        | cons x y => simp
      by_cases h60 : r.length + 1 ≤ 60
      · simp [hr2, h60, this]
      · simp [hr2, h60]
    · simp [ha]
theorem run8_cons (p : List UInt8) (c : UInt8) (l : List UInt8) : run8 p (c :: l) = if c = 47 then partL p && run8 [] l else run8 (p ++ [c]) l := by rw [run8]
/-- What holds at the head of a round of the law's loop. -/
def Rd8 (l : List UInt8) (W : Bool) (k : Nat) (want : Bool) (p : List UInt8) : Prop :=
  p.length ≤ k ∧ (if k ≤ l.length then (want && run8 p (l.drop k)) = W else want = W)
theorem Rd8.step {l : List UInt8} {W : Bool} {k : Nat} {want : Bool} {p : List UInt8} (h : Rd8 l W k want p) (hk : k < l.length) (hc : l[k] ≠ 47) : Rd8 l W (k + 1) want (p ++ [l[k]]) := by
  obtain ⟨h1, h2⟩ := h
  rw [if_pos (by omega), List.drop_eq_getElem_cons hk, run8_cons, if_neg hc] at h2
  exact ⟨by simp; omega, by rw [if_pos (by omega)]; exact h2⟩
theorem Rd8.cut {l : List UInt8} {W : Bool} {k : Nat} {want : Bool} {p : List UInt8} (h : Rd8 l W k want p) (hk : k < l.length) (hc : l[k] = 47) : Rd8 l W (k + 1) (want && partL p) [] := by
  obtain ⟨h1, h2⟩ := h
  rw [if_pos (by omega), List.drop_eq_getElem_cons hk, run8_cons, if_pos hc] at h2
  exact ⟨by simp, by rw [if_pos (by omega)]; rw [Bool.and_assoc]; exact h2⟩
theorem Rd8.last {l : List UInt8} {W : Bool} {want : Bool} {p : List UInt8} (h : Rd8 l W l.length want p) : Rd8 l W (l.length + 1) (want && partL p) [] := by
  obtain ⟨h1, h2⟩ := h
  rw [if_pos (by omega), List.drop_length] at h2
  exact ⟨by simp, by rw [if_neg (by omega)]; exact h2⟩
theorem Rd8.done {l : List UInt8} {W : Bool} {want : Bool} {p : List UInt8} (h : Rd8 l W (l.length + 1) want p) : want = W := by
  have := h.2
  rwa [if_neg (by omega)] at this
theorem ext_one (s : ByteArray) (k : Nat) (h : k < s.size) : s.extract k (k + 1) = bs [s[k]] := by
  have h' : k < s.data.toList.length := by rw [← Lib.size_eq]; exact h
  have e : s.extract k (k + 1) = bs (s.extract k (k + 1)).data.toList := (bs_of _).symm
  rw [e, Lib.extract_data, show k + 1 - k = 1 by omega, List.drop_eq_getElem_cons h']
  rfl
theorem head_at (s : ByteArray) (h : 0 < s.size) : s.data.toList.head? = some s[0] := by
  have h' : 0 < s.data.toList.length := by rw [← Lib.size_eq]; exact h
  rw [List.head?_eq_getElem?, List.getElem?_eq_getElem h']; rfl
theorem W0_yes (s : ByteArray) (h1 : 1 < s.size) (hr : s.data.toList ≠ [47]) (h0 : 0 < s.size) (hc : (s[0].toNat : Int) = 47) : (decide (s.data.toList = [47]) || (decide (1 < s.data.toList.length) && (decide (s.data.toList.head? = some 47) && decide (s.data.toList.length ≤ 60)))) = decide ((s.size : Int) ≤ 60) := by
  have e : s[0] = 47 := UInt8.toNat_inj.1 (by have h47 : (47 : UInt8).toNat = 47 := rfl; omega)
  rw [head_at s h0, e, ← Lib.size_eq, Bool.eq_iff_iff]
  simp [hr, h1]; omega
theorem W0_no (s : ByteArray) (hr : s.data.toList ≠ [47]) (h0 : 0 < s.size) (hc : ¬ (s[0].toNat : Int) = 47) : (decide (s.data.toList = [47]) || (decide (1 < s.data.toList.length) && (decide (s.data.toList.head? = some 47) && decide (s.data.toList.length ≤ 60)))) = false := by
  have e : s[0] ≠ 47 := fun e => hc (by rw [e]; rfl)
  rw [head_at s h0]
  simp [hr, e]
theorem byte_ne {b : UInt8} (h : ((b.toNat : Int) == 47) = false) : b ≠ 47 := fun e => by rw [e] at h; simp at h
set_option maxHeartbeats 4000000 in
theorem walk (a0 : ByteArray) (w : World) (w0 : a0.size ≤ maxLen) :
    Calls Tryd.prog 3 #[.string a0] w fun e w' => e = .returned (.bool true) ∧ Below w.heap.size w w' := by
  obtain ⟨s, hs⟩ : ∃ s, s = a0 := ⟨_, rfl⟩
  subst hs
  have HH := Lib.hid (head8_any w)
  have hm := w0
  unfold maxLen at hm
  by_cases h200 : 200 < s.size
  · have d0 : decide ((200 : Int) < (s.size : Int)) = true := by simp; omega
    go_enter Tryd.func3, Tryd.ntmps3
    go_wp2_with fail
    refine HH.out.mono ?_
    rintro e w1 ⟨rfl, hb⟩
    go_wp2_with fail
    go_ret
    exact ⟨rfl, hb⟩
  have d0 : decide ((200 : Int) < (s.size : Int)) = false := by simp; omega
  have hs2 : s.size ≤ 200 := by omega
  have HC := Lib.hid (fun W : World => check_any s W)
  have HP := Lib.hid (fun W : World => part_any s W)
  have HQ := Lib.hid (fun W : World => part8_any s W w0)
  have HLZ := Lib.hid (Lib.size_eq s)
  clear h200 w0 hm
  obtain ⟨W0, hW0⟩ : ∃ W0, W0 = (decide (s.data.toList = [47]) || (decide (1 < s.data.toList.length) && (decide (s.data.toList.head? = some 47) && decide (s.data.toList.length ≤ 60)))) := ⟨_, rfl⟩
  have HW0 := Lib.hid hW0
  clear hW0
  go_enter Tryd.func3, Tryd.ntmps3
  go_wp2_with fail
  refine HH.out.mono ?_
  rintro e w1 ⟨rfl, b1⟩
  go_upto_region 5 with fail
  go_cut [3] (fun q wx => q = .bool W0 ∧ wx = w1)
  case first =>
    by_cases hroot : s.data.toList = [47]
    · have er := eq_true hroot
      have hw : W0 = true := by rw [HW0.out, hroot]; rfl
      have HWW := Lib.hid hw
      clear hroot hw
      go_wp2_with fail
      go_meet
      exact ⟨by rw [HWW.out], rfl⟩
    · have er := eq_false hroot
      by_cases h1 : 1 < s.size
      · have d1 : decide ((1 : Int) < (s.size : Int)) = true := by simp; omega
        have h0 : 0 < s.size := by omega
        have HR := Lib.hid hroot
        clear hroot
        by_cases hc : (s[0].toNat : Int) = 47
        · have hw : W0 = decide ((s.size : Int) ≤ 60) := by rw [HW0.out]; exact W0_yes s h1 HR.out h0 hc
          have HWW := Lib.hid hw
          clear hw
          have hcb : ((s[0].toNat : Int) == 47) = true := by simp [hc]
          clear hc
          go_wp2_with fail
          go_meet
          exact ⟨by rw [HWW.out], rfl⟩
        · have hw : W0 = false := by rw [HW0.out]; exact W0_no s HR.out h0 hc
          have HWW := Lib.hid hw
          clear hw
          have hcb : ((s[0].toNat : Int) == 47) = false := by simp [hc]
          clear hc
          go_wp2_with fail
          go_meet
          exact ⟨by rw [HWW.out], rfl⟩
      · have d1 : decide ((1 : Int) < (s.size : Int)) = false := by simp; omega
        have hw : W0 = false := by rw [HW0.out, ← HLZ.out]; simp [hroot, h1]
        have HWW := Lib.hid hw
        clear hroot hw
        go_wp2_with fail
        go_meet
        exact ⟨by rw [HWW.out], rfl⟩
  case rest =>
    obtain ⟨rfl, rfl⟩ := hcut
    go_upto_if 29 with (fail)
    go_cut [3] (fun q wx => q = .bool (checkL s.data.toList) ∧ wx = wc)
    case first =>
      by_cases hroot : s.data.toList = [47]
      · have er := eq_true hroot
        simp only [er, Bool.not_true]
        have hw : W0 = true := by rw [HW0.out, hroot]; rfl
        have HWW := Lib.hid (show W0 = checkL s.data.toList by rw [hw, hroot]; rfl)
        clear hroot hw
        go_wp2_with fail
        go_meet
        exact ⟨by rw [HWW.out], rfl⟩
      · have er := eq_false hroot
        simp only [er, Bool.not_false]
        have HR := Lib.hid hroot
        clear hroot
        by_cases hz : s.size = 0
        · have hl : s.data.toList = [] := List.eq_nil_of_length_eq_zero (by rw [← HLZ.out, hz])
          have HWW := Lib.hid (show W0 = checkL s.data.toList by rw [HW0.out, hl]; rfl)
          have HZ := Lib.hid hz
          have hz2 : s.size < 1 := by omega
          clear hl hz
          go_wp2_with fail
          go_loop [3, 5] (fun wv iv => wv = .bool W0 ∧ iv = .int .i64 1) (fun _ iv => 0)
          case atStart => exact ⟨rfl, rfl⟩
          case round =>
            obtain ⟨rfl, rfl⟩ := hrel
            go_wp2_with fail
            go_meet
            exact ⟨by rw [HWW.out], rfl⟩
        · have HM := Lib.hid (checks_math s.data.toList (by rw [← HLZ.out]; omega) HR.out)
          obtain ⟨W, hW⟩ : ∃ W, W = checkL s.data.toList := ⟨_, rfl⟩
          have HW := Lib.hid hW
          have hst : Rd8 s.data.toList W 1 W0 [] := ⟨by simp, by rw [if_pos (by rw [← HLZ.out]; omega), hW, ← HM.out, HW0.out]; simp [HR.out]⟩
          have HST := Lib.hid hst
          clear hst hW
          go_wp2_with fail
          go_loop [3, 4, 5] (fun wv pv iv => ∃ (k : Nat) (want : Bool) (p : List UInt8), 1 ≤ k ∧ k ≤ s.size + 1 ∧ wv = .bool want ∧ pv = .string (bs p) ∧ iv = .int .i64 k ∧ Hid (Rd8 s.data.toList W k want p)) (fun _ _ iv => s.size + 1 - (intOf iv).toNat)
          case atStart => exact ⟨1, W0, [], by omega, by omega, rfl, rfl, rfl, HST⟩
          case round =>
            obtain ⟨k, want, p, hk1, hk, rfl, rfl, rfl, hR⟩ := hrel
            have hpl := hR.out.1
            have hps : (bs p).size ≤ 201 := by rw [bs_size]; omega
            have HPP := Lib.hid (fun W : World => part8_any (bs p) W (by unfold maxLen; omega))
            by_cases hlt : k < s.size
            · have hl2 : k < s.data.toList.length := by rw [← HLZ.out]; exact hlt
              have e1 : decide ((k : Int) ≤ (s.size : Int)) = true := by simp; omega
              have e2 : decide ((k : Int) < (s.size : Int)) = true := by simp; omega
              have hget : s.data.toList[k] = s[k] := rfl
              have HG := Lib.hid hget
              have HE := Lib.hid (ext_one s k hlt)
              clear hget
              by_cases hc : (s[k].toNat : Int) = 47
              · have hs47 : s.data.toList[k] = 47 := by rw [HG.out]; exact UInt8.toNat_inj.1 (by have h47 : (47 : UInt8).toNat = 47 := rfl; omega)
                have hR2 := Lib.hid (hR.out.cut hl2 hs47)
                have hc1 : ((s[k].toNat : Int) == 47) = true := by simp [hc]
                have hc2 : ((s[k].toNat : Int) != 47) = false := by simp [hc]
                clear hc hs47
                cases want
                · go_wp2_with fail
                  go_round
                  case rel => exact ⟨k + 1, _, _, by omega, by omega, rfl, rfl, by go_num, hR2⟩
                  case measure => simp [intOf]; omega
                · go_wp2_with fail
                  refine (HPP.out _).mono ?_
                  rintro e w3 ⟨rfl, rfl⟩
                  rw [bs_list]
                  go_wp2_with fail
                  go_round
                  case rel => exact ⟨k + 1, _, _, by omega, by omega, rfl, rfl, by go_num, hR2⟩
                  case measure => simp [intOf]; omega
              · have hs47 : s.data.toList[k] ≠ 47 := by rw [HG.out]; exact fun e => hc (by rw [e]; rfl)
                have hR2 := Lib.hid (hR.out.step hl2 hs47)
                have hc1 : ((s[k].toNat : Int) == 47) = false := by simp [hc]
                have hc2 : ((s[k].toNat : Int) != 47) = true := by simp [hc]
                clear hc hs47
                go_wp2_with fail
                rw [HE.out]
                go_wp2_with fail
                go_round
                case rel => exact ⟨k + 1, _, _, by omega, by omega, rfl, by rw [app_bs, bs_list, bs_list]; rfl, by go_num, hR2⟩
                case measure => simp [intOf]; omega
            · have e2 : decide ((k : Int) < (s.size : Int)) = false := by simp; omega
              by_cases hle : k = s.size
              · have e1 : decide ((k : Int) ≤ (s.size : Int)) = true := by simp; omega
                have hR2 : Hid (Rd8 s.data.toList W (k + 1) (want && partL p) []) := Lib.hid (by have := hR.out; rw [hle, HLZ.out] at this ⊢; exact this.last)
                have hle1 : k ≤ s.size := by omega
                have hle2 : ¬ k < s.size := by omega
                clear hle
                cases want
                · go_wp2_with fail
                  go_round
                  case rel => exact ⟨k + 1, _, _, by omega, by omega, rfl, rfl, by go_num, hR2⟩
                  case measure => simp [intOf]; omega
                · go_wp2_with fail
                  refine (HPP.out _).mono ?_
                  rintro e w3 ⟨rfl, rfl⟩
                  rw [bs_list]
                  go_wp2_with fail
                  go_round
                  case rel => exact ⟨k + 1, _, _, by omega, by omega, rfl, rfl, by go_num, hR2⟩
                  case measure => simp [intOf]; omega
              · have hD : want = W := by have := hR.out; rw [show k = s.data.toList.length + 1 by rw [← HLZ.out]; omega] at this; exact this.done
                have HD := Lib.hid hD
                have e1 : decide ((k : Int) ≤ (s.size : Int)) = false := by simp; omega
                clear hD
                go_wp2_with fail
                go_meet
                exact ⟨by rw [HD.out, HW.out], rfl⟩
    case rest =>
      obtain ⟨rfl, rfl⟩ := hcut
      obtain ⟨C, hC⟩ : ∃ C, C = checkL s.data.toList := ⟨_, rfl⟩
      obtain ⟨p, hp⟩ : ∃ p, p = partL s.data.toList := ⟨_, rfl⟩
      have hE : checkE s.data.toList = if C then 0 else 10 := by rw [hC]; rfl
      rw [← hC]
      rw [← hp] at HP HQ
      have HE0 := Lib.hid hE
      clear hC hp hE HW0
      cases C
      · have HE : Hid (checkE s.data.toList = 10) := Lib.hid (by rw [HE0.out]; rfl)
        clear HE0
        go_wp2_with fail
        refine (HC.out _).mono ?_
        rintro e w2 ⟨rfl, c2⟩
        rw [HE.out]
        replace c2 := b1.trans (c2.mono b1.size)
        have b2 := c2
        clear b1 c2
        go_wp2_with fail
        refine (HC.out _).mono ?_
        rintro e w3 ⟨rfl, c3⟩
        rw [HE.out]
        replace c3 := b2.trans (c3.mono b2.size)
        have b3 := c3
        clear b2 c3
        go_wp2_with fail
        refine (HC.out _).mono ?_
        rintro e w4 ⟨rfl, c4⟩
        rw [HE.out]
        replace c4 := b3.trans (c4.mono b3.size)
        have b4 := c4
        clear b3 c4
        go_wp2_with fail
        refine (HP.out _).mono ?_
        rintro e w5 ⟨rfl, rfl⟩
        go_wp2_with fail
        refine (HQ.out _).mono ?_
        rintro e w6 ⟨rfl, rfl⟩
        go_wp2_with fail
        go_ret
        exact ⟨by simp, b4⟩
      · have HE : Hid (checkE s.data.toList = 0) := Lib.hid (by rw [HE0.out]; rfl)
        clear HE0
        go_wp2_with fail
        refine (HC.out _).mono ?_
        rintro e w2 ⟨rfl, c2⟩
        rw [HE.out]
        replace c2 := b1.trans (c2.mono b1.size)
        have b2 := c2
        clear b1 c2
        go_wp2_with fail
        refine (HC.out _).mono ?_
        rintro e w3 ⟨rfl, c3⟩
        rw [HE.out]
        replace c3 := b2.trans (c3.mono b2.size)
        have b3 := c3
        clear b2 c3
        go_wp2_with fail
        refine (HP.out _).mono ?_
        rintro e w5 ⟨rfl, rfl⟩
        go_wp2_with fail
        refine (HQ.out _).mono ?_
        rintro e w6 ⟨rfl, rfl⟩
        go_wp2_with fail
        go_ret
        exact ⟨by simp, b3⟩

theorem own : ownKnob Tryd.prog.godebug = none := by kernel_rfl
theorem laidOut : laidOutB Tryd.prog = true := by kernel_rfl

theorem contract (H : Type) (enc : TypeId × Value → H) (W : World) (base : Nat) (args : Array Value) (ds gs : List (DataW H)) (before : List MemPlace)
    (hval : ∀ (j : Nat) t v, Tryd.f3.params[j]? = some t → args[j]? = some v → Value.okWide Tryd.prog W .any base t v)
    (hW : DataW.Whole enc Tryd.prog Tryd.f3.params.toList Rows.pathChecksSpec.vars false W args.toList ds gs before) (hL : laidMetH Tryd.prog Rows.pathChecksRow.laid W) :
    Calls Tryd.prog 3 args W fun e W' => ∃ v, e = .returned v ∧ Rows.pathChecksSpec.post enc Tryd.prog Tryd.f3 false true false false W args v W' := by
  have hW' := hW
  obtain ⟨p, q, hA0, hV, rfl, hfz, hnd⟩ := hW
  have hA : DataW.TrodAll enc Tryd.prog W 0 (fun _ => true) true Tryd.f3.params.toList args.toList ds p := hA0
  rw [Tryd.params3] at hA hval
  obtain ⟨v0, vs0, d0, ds0, p0, q0, hargs, rfl, rfl, h0, r0⟩ := trodAll_cons hA
  obtain ⟨rfl, rfl, rfl⟩ := trodAll_nil r0
  obtain rfl : args = #[v0] := by cases args; simp_all
  obtain ⟨rfl, rfl⟩ := trodVars_none hV
  obtain ⟨a0, rfl, rfl, rfl, w0⟩ := open_string Tryd.underlying9 (hval 0 9 v0 rfl rfl) h0
  clear hA0
  refine (walk a0 W w0).mono fun e W' ⟨he, bel⟩ => ?_
  subst he
  exact ⟨_, rfl, _, _, _, [], _, [], hW', trodAll_mk1 (shut_bool Tryd.underlying4 _), (trodAll_cons_mk (shut_string Tryd.underlying9 w0) trodAll_mk0), rfl, bel.frame _, fun h => by cases h⟩

theorem laid_met (os : Os) : laidMet Tryd.prog Rows.pathChecksRow.laid ((World.laidAll Tryd.prog os Rows.pathChecksRow.laid).forCall (fun _ _ => 0) ⟨#[], #[.string ByteArray.empty], []⟩).memory :=
  laidMet_laidAll _ (by kernel_rfl) (by kernel_rfl)
theorem reads (os : Os) {H : Type} (enc : TypeId × Value → H) : ∃ places, DataW.whole enc Tryd.prog ((World.laidAll Tryd.prog os Rows.pathChecksRow.laid).forCall (fun _ _ => 0) ⟨#[], #[.string ByteArray.empty], []⟩).memory Tryd.f3.params.toList Rows.pathChecksSpec.vars false #[Value.string ByteArray.empty].toList 8 = some ([.lit (.string [])], [], places) :=
  ⟨[], by kernel_rfl⟩

set_option maxRecDepth 100000 in
theorem lifted (os : Os) (started : os.Started) (H : Type) (enc : TypeId × Value → H) (F : Stop.Interp) :
    ReturnsInHanded {} Tryd.checked os 3 .any ((OpenSpec.ofChange Rows.pathChecksSpec).preRow enc Tryd.prog Tryd.f3 Rows.pathChecksRow.domain false Rows.pathChecksRow.laid) (((OpenSpec.ofChange Rows.pathChecksSpec).at F).post enc Tryd.prog Tryd.f3 false true false false) := by
  obtain ⟨places, hx⟩ := reads os enc
  refine returnsInHanded_of_row (C := Tryd.checked) (s := OpenSpec.ofChange Rows.pathChecksSpec) own started (by kernel_rfl) Tryd.func3
    (witness_zip (enc := enc) (C := Tryd.checked) false (World.laidAll Tryd.prog os Rows.pathChecksRow.laid) #[.string ByteArray.empty] (World.laidAll_os _ _ _) (World.shaped_of_ZipB (by kernel_rfl) (by kernel_rfl)) (by kernel_rfl)
      (OpenSpec.preRow_of_cond 8 hx (by kernel_rfl) (fun k hk => by cases hk) (by kernel_rfl) (laid_met os))) ?_
  intro W base args ds gs before hval hW _ _ _ hL _ _
  exact contract H enc W base args ds gs before hval hW hL

theorem said : Rows.PathChecksSaid :=
  OpenClaim.holds_of_cond 3 Tryd.f3 rfl rfl rfl rfl rfl rfl rfl ⟨rfl, rfl, rfl, rfl, rfl⟩ rfl rfl rfl rfl rfl (by kernel_rfl) Tryd.func3 (by kernel_rfl)
    (of_decide_eq_true (by kernel_rfl)) (by unfold Func.isWrapper; first | (rw [if_pos (by decide +kernel)]; kernel_rfl) | (rw [if_neg (by decide +kernel)]; exact ⟨rfl, rfl⟩))
    (fun os started H enc _ F => by rw [OpenClaim.pre_eq_preRow]; exact lifted os started H enc F)

theorem plain (f : FuncId) (fn : Func) (hf : Tryd.pinned.checked.prog.funcNamed "orchard/orchardlaw08.PathChecks" = some f) (hfn : Tryd.pinned.checked.prog.funcs[f]? = some fn) :
    true = Tryd.pinned.checked.prog.looks [] ∧ ∀ (j : Nat) t, fn.params[j]? = some t → Tryd.pinned.checked.prog.wantsStandIn t = false := by
  obtain rfl : f = 3 := Option.some.inj ((show Tryd.prog.funcNamed "orchard/orchardlaw08.PathChecks" = some 3 by kernel_rfl).symm.trans hf) |>.symm
  obtain rfl : fn = Tryd.f3 := (Option.some.inj (Tryd.func3.symm.trans hfn)).symm
  refine ⟨by kernel_rfl, fun j t ht => ?_⟩
  rw [Tryd.params3] at ht
  have hm := Array.mem_of_getElem? ht
  simp at hm
  subst hm
  exact (show Tryd.prog.wantsStandIn 9 = false by kernel_rfl)

theorem card : Rows.PathChecksCardSaid :=
  Claim7.holds_tied_plain_at .later [] _ _ _ _ said (fun _ h => by cases h) (by kernel_rfl) (fun _ h => by cases h) pathChecks_row_tie rfl ⟨rfl, rfl⟩ (by kernel_rfl) rfl plain (by kernel_rfl)
end Go.Proofs.YtoekjofilcehoaaDoor.pathChecks
