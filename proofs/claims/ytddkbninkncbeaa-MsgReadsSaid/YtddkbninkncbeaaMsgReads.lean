/- MsgReads: whatever bytes: a message whose bytes they are, or none; no condition on the input. -/
import Derived.Test.YtddkbninkncbeaaMHead
import Derived.Test.YtddkbninkncbeaaRows
import Derived.ProofKit
import Derived.OpenShut
import Derived.ShutString
import Derived.ChangeOld
import Derived.Deep.DeepHandedRow
import Derived.Lib.LaidTab
import Derived.Stop.LaidErr
import Derived.Lay
namespace Go.Proofs.Ytddkbninkncbeaa.msgReads
open Go.ChangeShapes Go.WideShapes Go.ChangeAt Go.RowKit
open Go.ChangeMaps (open_string shut_string)
set_option linter.unusedVariables false
set_option maxRecDepth 100000
set_option maxHeartbeats 4000000 in
theorem walk (a0 : ByteArray) (w : World) (w0 : a0.size ≤ maxLen) :
    Calls Try.prog 4 #[.string a0] w fun e w' => e = .returned (.bool true) ∧ Below w.heap.size w w' := by
  have HH := Lib.hid (head_any w)
  unfold maxLen at w0
  by_cases hs : 1500 < a0.size
  · have d1 : decide ((1500 : Int) < (a0.size : Int)) = true := by simp; omega
    go_enter Try.func4, Try.ntmps4
    go_wp2_with fail
    refine HH.out.mono ?_
    rintro e w1 ⟨rfl, b1⟩
    go_wp2_with fail
    go_ret
    exact ⟨rfl, b1⟩
  have d1 : decide ((1500 : Int) < (a0.size : Int)) = false := by simp; omega
  have hs2 : a0.size ≤ 1500 := by omega
  clear hs w0
  have HRD := Lib.hid (fun W : World => mread_any a0 W (by omega))
  obtain ⟨l, hl⟩ : ∃ l, l = a0.data.toList := ⟨_, rfl⟩
  rw [← hl] at HRD
  have HG := Lib.hid (fun h : (readM l).2 = 0 => readM_some h)
  have HT := Lib.hid (fun h : ¬ (readM l).2 = 0 => readM_two h)
  have HO := Lib.hid (readM_oks l)
  generalize hY : readM l = Y at HRD HG HT HO
  clear hY
  obtain ⟨c, ec⟩ := Y
  simp only at HRD HG HT HO
  by_cases he : ec = 0
  · subst he
    obtain ⟨g1, g2⟩ := HG.out rfl
    have hcb : bytesM c = (a0, 0) := by
      unfold bytesM
      rw [if_pos g2, g1, hl, arr_mk]
    have HCB := Lib.hid hcb
    have HRT := Lib.hid g2
    clear g1 g2 hcb HG HT hl
    go_enter Try.func4, Try.ntmps4
    go_wp2_with fail
    refine HH.out.mono ?_
    rintro e w1 ⟨rfl, b1⟩
    go_wp2_with fail
    refine (HRD.out _).mono ?_
    rintro e w2 ⟨u, v, rfl, O2, S2, b2⟩
    obtain ⟨a, ca, rfl, _⟩ := RowG.form O2
    obtain ⟨sa, sc, rfl, _⟩ := RowG.form S2
    have R2 := ERow.ensR O2 (Nat.le_trans HO.out.2.1 (show 4 ≤ maxLen by decide)) HO.out.2.2.1
    have T2 := SRow.smsR S2 (Nat.le_trans HO.out.2.2.2.1 (show 64 ≤ maxLen by decide)) HO.out.2.2.2.2
    obtain ⟨W3, hst, N3, b3⟩ := newM w2 c.es.length ca c.ss.length sc a sa c
    have hld := run_loadM N3
    have bB := b1.trans (b2.mono b1.size)
    have bC := bB.trans (b3.mono bB.size)
    have HBY := Lib.hid (mbytes_any _ _ c W3 HO.out.1 (R2.below b3) (T2.below b3))
    rw [HCB.out] at HBY
    have HN3 := Lib.hid N3
    have HR3 := Lib.hid (R2.below b3)
    have HT3 := Lib.hid (T2.below b3)
    unfold mgV at hst hld HBY ⊢
    have HST := Lib.hid hst
    have HLD := Lib.hid hld
    clear HH HRD b1 b2 b3 R2 T2 O2 S2 bB N3 hst hld
    go_wp2_with (first | (refine wpList_store_run HST.out rfl rfl rfl rfl ?_) | (refine wpList_load_run HLD.out rfl rfl rfl ?_))
    refine HBY.out.mono ?_
    rintro e w4 ⟨rfl, b4⟩
    have N4 := HN3.out.below b4
    have hld := run_loadM N4
    have bD := bC.trans (b4.mono bC.size)
    have HLR := Lib.hid (lright_any _ _ c w4 HO.out.1 (HR3.out.below b4) (HT3.out.below b4))
    rw [HRT.out] at HLR
    unfold mgV at hld HLR
    have HLD4 := Lib.hid hld
    have ee : (a0.toList == a0.toList) = true := by simp
    clear HST HLD HBY HN3 HR3 HT3 N4 hld b4 bC
    go_wp2_with (refine wpList_load_g HLD4.out rfl rfl (by rfl) ?_)
    refine HLR.out.mono ?_
    rintro e w5 ⟨rfl, b5⟩
    go_wp2_with fail
    go_ret
    exact ⟨by simp, bD.trans (b5.mono bD.size)⟩
  · have ht := HT.out he
    injection ht with h1 h2
    subst h1 h2
    clear HG HT he hl HO
    go_enter Try.func4, Try.ntmps4
    go_wp2_with fail
    refine HH.out.mono ?_
    rintro e w1 ⟨rfl, b1⟩
    go_wp2_with fail
    refine (HRD.out _).mono ?_
    rintro e w2 ⟨u, v, rfl, O2, S2, b2⟩
    obtain ⟨a, ca, rfl, _⟩ := RowG.form O2
    obtain ⟨sa, sc, rfl, _⟩ := RowG.form S2
    obtain ⟨W3, hst, N3, b3⟩ := newM w2 0 ca 0 sc a sa Mg.zero
    have bB := b1.trans (b2.mono b1.size)
    have bC := bB.trans (b3.mono bB.size)
    obtain ⟨⟨c0, _⟩, _⟩ := MgB.cells N3
    simp only [Mg.zero] at c0
    rw [show Mg.zero.es.length = 0 from rfl, show Mg.zero.ss.length = 0 from rfl]
    simp only [mgV, Mg.zero] at hst ⊢
    have HST := Lib.hid hst
    clear HH HRD b1 b2 b3 O2 S2 bB N3 hst
    go_wp2_with (refine wpList_store_run HST.out rfl rfl rfl rfl ?_)
    go_ret
    exact ⟨by simp, bC⟩

theorem own : ownKnob Try.prog.godebug = none := by kernel_rfl
theorem laidOut : laidOutB Try.prog = true := by kernel_rfl

set_option maxRecDepth 100000 in
theorem lifted (os : Os) (started : os.Started) (H : Type) (enc : TypeId × Value → H) :
    ReturnsInHanded {} Try.checked os 4 .any (Rows.msgReadsSpec.pre6 enc Try.prog Try.f4 Rows.msgReadsRow.domain false) (Rows.msgReadsSpec.post enc Try.prog Try.f4 false true false false) := by
  refine returnsInHanded_of_change (C := Try.checked) own started (by kernel_rfl) Try.func4
    (ChangeSpec.witness6 (enc := enc) (C := Try.checked) false ⟨#[], #[.string ByteArray.empty], []⟩ 8 (by kernel_rfl) (by kernel_rfl) (by kernel_rfl) (by kernel_rfl)) ?_
  intro W base args ds gs before hval0 hW hcnd _
  have hval : ∀ (j : Nat) t v, Try.f4.params[j]? = some t → args[j]? = some v → Value.okWide Try.prog W .any base t v := hval0
  have hW' := hW
  obtain ⟨p, q, hA0, hV, rfl, hfz, hnd⟩ := hW
  have hA : DataW.TrodAll enc Try.prog W 0 (fun _ => true) true Try.f4.params.toList args.toList ds p := hA0
  rw [Try.params4] at hA hval
  obtain ⟨v0, vs0, d0, ds0, p0, q0, hargs, rfl, rfl, h0, r0⟩ := trodAll_cons hA
  obtain ⟨rfl, rfl, rfl⟩ := trodAll_nil r0
  obtain rfl : args = #[v0] := by cases args; simp_all
  obtain ⟨rfl, rfl⟩ := trodVars_none hV
  obtain ⟨a0, rfl, rfl, rfl, w0⟩ := open_string Try.underlying9 (hval 0 9 v0 rfl rfl) h0
  clear hA0 hval0
  refine (walk a0 W w0).mono fun e W' ⟨he, bel⟩ => ?_
  subst he
  exact ⟨_, rfl, _, _, _, [], _, [], hW', trodAll_mk1 (shut_bool Try.underlying4 _), (trodAll_cons_mk (shut_string Try.underlying9 w0) trodAll_mk0), rfl, bel.frame _, fun h => by cases h⟩

theorem over : Rows.msgReadsRow.holds Try.pinned (OpenSpec.ofChange Rows.msgReadsSpec) :=
  OpenClaim.holds_of_wide 4 Try.f4 rfl rfl rfl rfl rfl rfl rfl ⟨rfl, rfl, rfl, rfl, rfl⟩ rfl rfl rfl rfl rfl (by kernel_rfl) Try.func4 (by kernel_rfl)
    (of_decide_eq_true (by kernel_rfl)) (by unfold Func.isWrapper; first | (rw [if_pos (by decide +kernel)]; kernel_rfl) | (rw [if_neg (by decide +kernel)]; exact ⟨rfl, rfl⟩))
    (fun os started H enc _ => lifted os started H enc)

theorem proved : Rows.MsgReadsSaid := over
end Go.Proofs.Ytddkbninkncbeaa.msgReads
