/- OpReads: whatever bytes: a command whose bytes they are, or none; no condition on the input. -/
import Derived.Test.YtkdbkbfloiponaaOpHead
import Derived.Test.YtkdbkbfloiponaaRows
import Derived.ProofKit
import Derived.OpenShut
import Derived.ShutString
import Derived.ChangeOld
import Derived.Deep.DeepHandedRow
import Derived.Lib.LaidTab
import Derived.Stop.LaidErr
import Derived.Lay
namespace Go.Proofs.Ytkdbkbfloiponaa.opReads
open Go.ChangeShapes Go.WideShapes Go.ChangeAt Go.RowKit
open Go.ChangeMaps (open_string shut_string)
set_option linter.unusedVariables false
set_option maxRecDepth 100000
set_option maxHeartbeats 4000000 in
theorem walk (a0 : ByteArray) (w : World) (w0 : a0.size ≤ maxLen) :
    Calls Try.prog 3 #[.string a0] w fun e w' => e = .returned (.bool true) ∧ Below w.heap.size w w' := by
  have HH := Lib.hid (head_any w)
  unfold maxLen at w0
  by_cases hs : 600 < a0.size
  · have d1 : decide ((600 : Int) < (a0.size : Int)) = true := by simp; omega
    go_enter Try.func3, Try.ntmps3
    go_wp2_with fail
    refine HH.out.mono ?_
    rintro e w1 ⟨rfl, b1⟩
    go_wp2_with fail
    go_ret
    exact ⟨rfl, b1⟩
  have d1 : decide ((600 : Int) < (a0.size : Int)) = false := by simp; omega
  have hs2 : a0.size ≤ 600 := by omega
  clear hs w0
  have HRD := Lib.hid (fun W : World => oread_any a0 W (by omega))
  obtain ⟨l, hl⟩ : ∃ l, l = a0.data.toList := ⟨_, rfl⟩
  rw [← hl] at HRD
  have HG := Lib.hid (fun h : (readC l).2 = 0 => readC_some h)
  have HT := Lib.hid (fun h : ¬ (readC l).2 = 0 => readC_two h)
  generalize hY : readC l = Y at HRD HG HT
  clear hY
  obtain ⟨c, ec⟩ := Y
  simp only at HRD HG HT
  by_cases he : ec = 0
  · subst he
    obtain ⟨g1, g2, g3⟩ := HG.out rfl
    have hcb : bytesC c = (a0, 0) := by
      unfold bytesC
      rw [if_pos g2, if_neg (by rw [g1]; omega), g1, hl, arr_mk]
    have hlen : c.ops.length ≤ 4 := (rightC_parts g2).2.2.2.2.2.1
    have hok : c.Ok ∧ ∀ x ∈ c.ops, x.Ok := rightC_ok g2
    have HCB := Lib.hid hcb
    have HOK := Lib.hid hok
    have HRT := Lib.hid g2
    clear g1 g2 g3 hcb HG HT hl hok
    go_enter Try.func3, Try.ntmps3
    go_wp2_with fail
    refine HH.out.mono ?_
    rintro e w1 ⟨rfl, b1⟩
    go_wp2_with fail
    refine (HRD.out _).mono ?_
    rintro e w2 ⟨u, rfl, O2, b2⟩
    have R2 := O2.opsR (by unfold maxLen; omega) HOK.out.2
    obtain ⟨a, cp, rfl, _⟩ := O2.form
    have bB := b1.trans (b2.mono b1.size)
    have bC := (Below.refl _ w2).alloc (Nat.le_refl _) (.cells (cmA (.slice a c.ops.length cp) c) 26)
    have K3 := CmB.new w2 (.slice a c.ops.length cp) c
    have R3 := R2.below bC
    have bD := bB.trans (bC.mono bB.size)
    have HV : Hid (cmV (.slice a c.ops.length cp) c = .agg (cmA (.slice a c.ops.length cp) c)) := Lib.hid rfl
    rw [HV.out]
    unfold cmA
    clear HH HRD b1 b2 R2 O2 bB bC
    go_upto_region 8 with fail
    obtain ⟨w3, hw3⟩ : ∃ w3, w3 = w2.alloc (.cells (cmA (.slice a c.ops.length cp) c) 26) := ⟨_, rfl⟩
    have hw3' := hw3
    unfold cmA at hw3'
    rw [← hw3] at K3 R3 bD
    rw [← hw3']
    obtain ⟨cb, hcb⟩ : ∃ cb, cb = w2.heap.size := ⟨_, rfl⟩
    rw [← hcb] at K3 ⊢
    have HBY := Lib.hid (bytes_any (.slice a c.ops.length cp) c w3 ⟨HOK.out.1, _, rfl, R3⟩)
    rw [HCB.out, HV.out] at HBY
    unfold cmA at HBY
    obtain ⟨⟨c0, c1, c2, c3, c4, c5, c6, c7⟩, _⟩ := K3.cells
    have HK := Lib.hid K3
    have HR := Lib.hid R3
    clear hw3 hw3' hcb K3 R3
    go_wp2_with fail
    refine HBY.out.mono ?_
    rintro e w4 ⟨rfl, b4⟩
    have K4 := HK.out.below b4
    have R4 := HR.out.below b4
    have bE := bD.trans (b4.mono bD.size)
    have HLR := Lib.hid (lright_any (.slice a c.ops.length cp) c w4 ⟨HOK.out.1, _, rfl, R4⟩)
    rw [HRT.out, HV.out] at HLR
    unfold cmA at HLR
    clear c0 c1 c2 c3 c4 c5 c6 c7
    obtain ⟨⟨c0, c1, c2, c3, c4, c5, c6, c7⟩, _⟩ := K4.cells
    have ee : (a0.toList == a0.toList) = true := by simp
    clear K4 R4 b4 bD HK HR HBY
    go_wp2_with fail
    refine HLR.out.mono ?_
    rintro e w5 ⟨rfl, b5⟩
    go_wp2_with fail
    go_ret
    exact ⟨by simp, bE.trans (b5.mono bE.size)⟩
  · have ht := HT.out he
    injection ht with h1 h2
    subst h1 h2
    clear HG HT he hl
    go_enter Try.func3, Try.ntmps3
    go_wp2_with fail
    refine HH.out.mono ?_
    rintro e w1 ⟨rfl, b1⟩
    go_wp2_with fail
    refine (HRD.out _).mono ?_
    rintro e w2 ⟨u, rfl, O2, b2⟩
    have R2 := O2.opsR (by show 0 ≤ maxLen; exact Nat.zero_le _) (fun x hx => by cases hx)
    obtain ⟨a, cp, rfl, _⟩ := O2.form
    have bB := b1.trans (b2.mono b1.size)
    have bC := (Below.refl _ w2).alloc (Nat.le_refl _) (.cells (cmA (.slice a 0 cp) Cm.zero) 26)
    have R3 := R2.below bC
    have bD := bB.trans (bC.mono bB.size)
    have HSM := Lib.hid (same_any (.slice a 0 cp) (.slice none 0 0) Cm.zero Cm.zero _ R3 ⟨none, 0, rfl, Nat.zero_le _, (fun x hx => by cases hx), .inl rfl⟩)
    rw [eqB_self] at HSM
    unfold cmA at HSM
    simp only [cmV, Cm.zero] at HSM
    rw [show cmV (.slice a Cm.zero.ops.length cp) Cm.zero = .agg #[.int .i64 0, .int .i64 0, .int .i64 0, .int .i64 0, .slice a 0 cp, .string ⟨#[]⟩, .bool false, .bool false] from rfl]
    have bD' : Below w.heap.size w (w2.alloc (.cells #[.int .i64 0, .int .i64 0, .int .i64 0, .int .i64 0, .slice a 0 cp, .string ⟨#[]⟩, .bool false, .bool false] 26)) := bD
    clear HH HRD b1 b2 R2 O2 bB bC R3 bD
    go_wp2_with fail
    refine HSM.out.mono ?_
    rintro e w5 ⟨rfl, b5⟩
    go_wp2_with fail
    go_ret
    exact ⟨by simp, bD'.trans (b5.mono bD'.size)⟩

theorem own : ownKnob Try.prog.godebug = none := by kernel_rfl
theorem laidOut : laidOutB Try.prog = true := by kernel_rfl

set_option maxRecDepth 100000 in
theorem lifted (os : Os) (started : os.Started) (H : Type) (enc : TypeId × Value → H) :
    ReturnsInHanded {} Try.checked os 3 .any (Rows.opReadsSpec.pre6 enc Try.prog Try.f3 Rows.opReadsRow.domain false) (Rows.opReadsSpec.post enc Try.prog Try.f3 false true false false) := by
  refine returnsInHanded_of_change (C := Try.checked) own started (by kernel_rfl) Try.func3
    (ChangeSpec.witness6 (enc := enc) (C := Try.checked) false ⟨#[], #[.string ByteArray.empty], []⟩ 8 (by kernel_rfl) (by kernel_rfl) (by kernel_rfl) (by kernel_rfl)) ?_
  intro W base args ds gs before hval0 hW hcnd _
  have hval : ∀ (j : Nat) t v, Try.f3.params[j]? = some t → args[j]? = some v → Value.okWide Try.prog W .any base t v := hval0
  have hW' := hW
  obtain ⟨p, q, hA0, hV, rfl, hfz, hnd⟩ := hW
  have hA : DataW.TrodAll enc Try.prog W 0 (fun _ => true) true Try.f3.params.toList args.toList ds p := hA0
  rw [Try.params3] at hA hval
  obtain ⟨v0, vs0, d0, ds0, p0, q0, hargs, rfl, rfl, h0, r0⟩ := trodAll_cons hA
  obtain ⟨rfl, rfl, rfl⟩ := trodAll_nil r0
  obtain rfl : args = #[v0] := by cases args; simp_all
  obtain ⟨rfl, rfl⟩ := trodVars_none hV
  obtain ⟨a0, rfl, rfl, rfl, w0⟩ := open_string Try.underlying9 (hval 0 9 v0 rfl rfl) h0
  clear hA0 hval0
  refine (walk a0 W w0).mono fun e W' ⟨he, bel⟩ => ?_
  subst he
  exact ⟨_, rfl, _, _, _, [], _, [], hW', trodAll_mk1 (shut_bool Try.underlying4 _), (trodAll_cons_mk (shut_string Try.underlying9 w0) trodAll_mk0), rfl, bel.frame _, fun h => by cases h⟩

theorem over : Rows.opReadsRow.holds Try.pinned (OpenSpec.ofChange Rows.opReadsSpec) :=
  OpenClaim.holds_of_wide 3 Try.f3 rfl rfl rfl rfl rfl rfl rfl ⟨rfl, rfl, rfl, rfl, rfl⟩ rfl rfl rfl rfl rfl (by kernel_rfl) Try.func3 (by kernel_rfl)
    (of_decide_eq_true (by kernel_rfl)) (by unfold Func.isWrapper; first | (rw [if_pos (by decide +kernel)]; kernel_rfl) | (rw [if_neg (by decide +kernel)]; exact ⟨rfl, rfl⟩))
    (fun os started H enc _ => lifted os started H enc)

theorem proved : Rows.OpReadsSaid := over
end Go.Proofs.Ytkdbkbfloiponaa.opReads
