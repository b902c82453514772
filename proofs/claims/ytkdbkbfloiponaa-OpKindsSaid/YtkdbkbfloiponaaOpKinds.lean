/- OpKinds: commands of each kind, of each operation; those beyond are none; no condition on the input. -/
import Derived.Test.YtkdbkbfloiponaaOpHead
import Derived.Test.YtkdbkbfloiponaaRows
import Derived.ProofKit
import Derived.OpenShut
import Derived.ShutString
import Derived.ChangeOld
import Derived.Deep.DeepHandedRow
import Derived.Lib.LaidTab
import Derived.Stop.LaidErr
import Derived.Lay
namespace Go.Proofs.Ytkdbkbfloiponaa.opKinds
open Go.ChangeShapes Go.WideShapes Go.ChangeAt Go.RowKit
open Go.ChangeMaps (open_string shut_string)
set_option linter.unusedVariables false
set_option maxRecDepth 100000
theorem i64_and15 (n : Int) : bits .and .i64 n 15 = n % 16 := by
  have h127 : (BitVec.ofInt 64 15).toNat = 2 ^ 4 - 1 := by decide
  have key : (BitVec.ofInt 64 n &&& BitVec.ofInt 64 15).toNat = (n % ((2 ^ 64 : Nat) : Int)).toNat % 2 ^ 4 := by
    rw [BitVec.toNat_and, BitVec.toNat_ofInt, h127, Nat.and_two_pow_sub_one_eq_mod]
  show IntKind.i64.wrap ((BitVec.ofInt 64 n &&& BitVec.ofInt 64 15).toNat : Nat) = n % 16
  rw [key, IntKind.wrap_i64]
  omega
theorem i64_and7 (n : Int) : bits .and .i64 n 7 = n % 8 := by
  have h127 : (BitVec.ofInt 64 7).toNat = 2 ^ 3 - 1 := by decide
  have key : (BitVec.ofInt 64 n &&& BitVec.ofInt 64 7).toNat = (n % ((2 ^ 64 : Nat) : Int)).toNat % 2 ^ 3 := by
    rw [BitVec.toNat_and, BitVec.toNat_ofInt, h127, Nat.and_two_pow_sub_one_eq_mod]
  show IntKind.i64.wrap ((BitVec.ofInt 64 n &&& BitVec.ofInt 64 7).toNat : Nat) = n % 8
  rw [key, IntKind.wrap_i64]
  omega


set_option maxHeartbeats 8000000 in
theorem walk (a0 a1 : Int) (w : World) (w0 : (Lit.int .i64 a0).wf = true) (w1 : (Lit.int .i64 a1).wf = true) :
    Calls Try.prog 7 #[.int .i64 a0, .int .i64 a1] w fun e w' => e = .returned (.bool true) ∧ Below w.heap.size w w' := by
  have HH := Lib.hid (head_any w)
  obtain ⟨k, hk, hk2⟩ : ∃ k : Int, bits .and .i64 a0 15 = k ∧ 0 ≤ k ∧ k ≤ 15 := ⟨_, rfl, by rw [i64_and15]; omega, by rw [i64_and15]; omega⟩
  obtain ⟨d, hd, hd2⟩ : ∃ d : Int, bits .and .i64 a1 7 = d ∧ 0 ≤ d ∧ d ≤ 7 := ⟨_, rfl, by rw [i64_and7]; omega, by rw [i64_and7]; omega⟩
  obtain ⟨o, ho⟩ : ∃ o : Opr, o = ⟨d, ⟨#[47, 97]⟩, ⟨#[]⟩, 0, false, false⟩ := ⟨_, rfl⟩
  obtain ⟨c, hc⟩ : ∃ c : Cm, c = ⟨k, 0, 0, 0, [o], ⟨#[]⟩, false, false⟩ := ⟨_, rfl⟩
  have hoO : o.Ok := by rw [ho]; exact ⟨by unfold InR; simp only; omega, by show 2 ≤ maxLen; decide, by show 0 ≤ maxLen; decide, by unfold InR; simp only; omega⟩
  have hcO : c.Ok := by rw [hc]; exact ⟨by unfold InR; simp only; omega, by unfold InR; simp only; omega, by unfold InR; simp only; omega, by unfold InR; simp only; omega, by show 0 ≤ maxLen; decide⟩
  have hro : rightO o = (decide (1 ≤ d) && decide (d ≤ 4)) := by rw [ho]; unfold rightO; simp [ByteArray.size]
  have hrc : rightC c = (rightO o && (decide (0 ≤ k) && decide (k ≤ 5))) := by rw [hc]; unfold rightC rightN lowB highB rightT; simp [ByteArray.size]
  have hle : (encC c).length ≤ 488 := by
    have e1 := textsE_len3 c.path (by rw [hc]; show 0 ≤ 65535; decide)
    have e2 := encO_len2 o (by rw [ho]; show 2 ≤ 65535; decide) (by rw [ho]; show 0 ≤ 65535; decide)
    have h1 : c.ops = [o] := by rw [hc]
    have h2 : c.path.size = 0 := by rw [hc]; rfl
    have h3 : o.path.size = 2 := by rw [ho]; rfl
    have h4 : o.data.size = 0 := by rw [ho]; rfl
    unfold encC headE
    rw [List.length_append, List.length_append, List.length_append, flagsE_length, e1, numsE_length, h1, List.flatMap_cons, List.flatMap_nil, List.append_nil, e2]
    simp only [List.length_cons, List.length_nil]; omega
  have HCA : Hid (∀ v, cmV v c = .agg #[.int .i64 k, .int .i64 0, .int .i64 0, .int .i64 0, v, .string ⟨#[]⟩, .bool false, .bool false]) := Lib.hid (fun v => by rw [hc]; rfl)
  have HCM : Hid (∀ v, cmA v c = #[.int .i64 k, .int .i64 0, .int .i64 0, .int .i64 0, v, .string ⟨#[]⟩, .bool false, .bool false]) := Lib.hid (fun v => by rw [hc]; rfl)
  have HOA : Hid (opA o = #[.int .i64 d, .string ⟨#[47, 97]⟩, .string ⟨#[]⟩, .int .i64 0, .bool false, .bool false]) := Lib.hid (by rw [ho]; rfl)
  have HOV : Hid (opV o = .agg #[.int .i64 d, .string ⟨#[47, 97]⟩, .string ⟨#[]⟩, .int .i64 0, .bool false, .bool false]) := Lib.hid (by rw [ho]; rfl)
  have HCO : Hid (c.ops = [o]) := Lib.hid (by rw [hc])
  have HOO := Lib.hid hoO
  have HCC := Lib.hid hcO
  have HRO := Lib.hid hro
  have HRC := Lib.hid hrc
  have HLE := Lib.hid hle
  clear ho hc hoO hcO hro hrc hle w0 w1
  go_enter Try.func7, Try.ntmps7
  go_wp2_with fail
  refine HH.out.mono ?_
  rintro e w1 ⟨rfl, b1⟩
  have bA := b1.alloc b1.size (.cells (opA o) 50)
  have N1 := OpB.new w1 o
  have bB := (Below.refl _ (w1.alloc (.cells (opA o) 50))).alloc (Nat.le_refl _) (.cells (cmA (.slice (some ⟨w1.heap.size, 0, none⟩) 1 1) c) 26)
  have K2 := CmB.new (w1.alloc (.cells (opA o) 50)) (.slice (some ⟨w1.heap.size, 0, none⟩) 1 1) c
  have N2 := N1.below bB
  have bC := bA.trans (bB.mono bA.size)
  rw [HCM.out, HOA.out] at bB
  go_upto_region 6 with fail
  obtain ⟨w2, hw2⟩ : ∃ w2, w2 = (w1.alloc (.cells (opA o) 50)).alloc (.cells (cmA (.slice (some ⟨w1.heap.size, 0, none⟩) 1 1) c) 26) := ⟨_, rfl⟩
  have hw2' := hw2
  rw [HCM.out, HOA.out] at hw2'
  rw [← hw2] at K2 N2 bC
  rw [← hw2']
  rw [show (w1.alloc (.cells (opA o) 50)).heap.size = w1.heap.size + 1 by simp] at K2
  obtain ⟨ob, hob⟩ : ∃ ob, ob = w1.heap.size := ⟨_, rfl⟩
  obtain ⟨cb, hcb⟩ : ∃ cb, cb = w1.heap.size + 1 := ⟨_, rfl⟩
  rw [← hcb] at K2 ⊢
  rw [← hob] at K2 N2 ⊢
  have R2 : OpsR w2 (.slice (some ⟨ob, 0, none⟩) 1 1) c.ops := by rw [HCO.out]; exact N2.opsR HOO.out
  obtain ⟨⟨c0, c1, c2, c3, c4, c5, c6, c7⟩, _⟩ := K2.cells
  have hce : c.kind = k ∧ c.ses = 0 ∧ c.req = 0 ∧ c.noted = 0 ∧ c.path = ⟨#[]⟩ ∧ c.kids = false ∧ c.once = false := by
    have := HCA.out (.slice none 0 0)
    unfold cmV at this
    simpa using this
  obtain ⟨z0, z1, z2, z3, z5, z6, z7⟩ := hce
  rw [z0] at c0
  rw [z1] at c1
  rw [z2] at c2
  rw [z3] at c3
  rw [z5] at c5
  rw [z6] at c6
  rw [z7] at c7
  have HZ := Lib.hid (And.intro z0 (And.intro z1 (And.intro z2 (And.intro z3 (And.intro z5 (And.intro z6 z7))))))
  have HBY := Lib.hid (bytes_any (.slice (some ⟨ob, 0, none⟩) 1 1) c w2 ⟨HCC.out, _, rfl, R2⟩)
  have HBE : Hid (bytesC c = if rightC c = true then (⟨(encC c).toArray⟩, 0) else (⟨#[]⟩, 1)) := Lib.hid (by unfold bytesC; rw [if_neg (show ¬ 488 < (encC c).length by have := HLE.out; omega)])
  rw [HCA.out] at HBY
  have HK := Lib.hid K2
  have HN := Lib.hid N2
  have HR := Lib.hid R2
  clear HH b1 bA N1 bB K2 N2 R2 hw2 hw2' hob hcb z0 z1 z2 z3 z5 z6 z7
  by_cases h5 : k ≤ 5
  case neg =>
    have f5 : decide (k ≤ 5) = false := by simpa using h5
    have hrf : rightC c = false := by rw [HRC.out, HRO.out]; simp; omega
    rw [HBE.out, hrf] at HBY
    simp only [Bool.false_eq_true, if_false] at HBY
    go_wp2_with fail
    refine HBY.out.mono ?_
    rintro e w3 ⟨rfl, b3⟩
    have K3 := HK.out.below b3
    have R3 := HR.out.below b3
    have bD := bC.trans (b3.mono bC.size)
    have HRR := Lib.hid (rightcm_any (.slice (some ⟨ob, 0, none⟩) 1 1) c w3 ⟨HCC.out, _, rfl, R3⟩)
    rw [hrf, HCA.out] at HRR
    clear c0 c1 c2 c3 c4 c5 c6 c7
    obtain ⟨⟨c0, c1, c2, c3, c4, c5, c6, c7⟩, _⟩ := K3.cells
    obtain ⟨z0, z1, z2, z3, z5, z6, z7⟩ := HZ.out
    rw [z0] at c0
    rw [z1] at c1
    rw [z2] at c2
    rw [z3] at c3
    rw [z5] at c5
    rw [z6] at c6
    rw [z7] at c7
    clear z0 z1 z2 z3 z5 z6 z7 hrf HBY K3 R3
    go_wp2_with fail
    refine HRR.out.mono ?_
    rintro e w4 ⟨rfl, b4⟩
    go_wp2_with fail
    go_ret
    exact ⟨rfl, bD.trans (b4.mono bD.size)⟩
  have f5 : decide (k ≤ 5) = true := by simpa using h5
  by_cases h1 : 1 ≤ d
  case neg =>
    have f1 : decide (1 ≤ d) = false := by simpa using h1
    have hrf : rightC c = false := by rw [HRC.out, HRO.out]; simp; omega
    rw [HBE.out, hrf] at HBY
    simp only [Bool.false_eq_true, if_false] at HBY
    go_wp2_with fail
    refine HBY.out.mono ?_
    rintro e w3 ⟨rfl, b3⟩
    have K3 := HK.out.below b3
    have R3 := HR.out.below b3
    have bD := bC.trans (b3.mono bC.size)
    have HRR := Lib.hid (rightcm_any (.slice (some ⟨ob, 0, none⟩) 1 1) c w3 ⟨HCC.out, _, rfl, R3⟩)
    rw [hrf, HCA.out] at HRR
    clear c0 c1 c2 c3 c4 c5 c6 c7
    obtain ⟨⟨c0, c1, c2, c3, c4, c5, c6, c7⟩, _⟩ := K3.cells
    obtain ⟨z0, z1, z2, z3, z5, z6, z7⟩ := HZ.out
    rw [z0] at c0
    rw [z1] at c1
    rw [z2] at c2
    rw [z3] at c3
    rw [z5] at c5
    rw [z6] at c6
    rw [z7] at c7
    clear z0 z1 z2 z3 z5 z6 z7 hrf HBY K3 R3
    go_wp2_with fail
    refine HRR.out.mono ?_
    rintro e w4 ⟨rfl, b4⟩
    go_wp2_with fail
    go_ret
    exact ⟨rfl, bD.trans (b4.mono bD.size)⟩
  have f1 : decide (1 ≤ d) = true := by simpa using h1
  by_cases h4 : d ≤ 4
  case neg =>
    have f4 : decide (d ≤ 4) = false := by simpa using h4
    have hrf : rightC c = false := by rw [HRC.out, HRO.out]; simp; omega
    rw [HBE.out, hrf] at HBY
    simp only [Bool.false_eq_true, if_false] at HBY
    go_wp2_with fail
    refine HBY.out.mono ?_
    rintro e w3 ⟨rfl, b3⟩
    have K3 := HK.out.below b3
    have R3 := HR.out.below b3
    have bD := bC.trans (b3.mono bC.size)
    have HRR := Lib.hid (rightcm_any (.slice (some ⟨ob, 0, none⟩) 1 1) c w3 ⟨HCC.out, _, rfl, R3⟩)
    rw [hrf, HCA.out] at HRR
    clear c0 c1 c2 c3 c4 c5 c6 c7
    obtain ⟨⟨c0, c1, c2, c3, c4, c5, c6, c7⟩, _⟩ := K3.cells
    obtain ⟨z0, z1, z2, z3, z5, z6, z7⟩ := HZ.out
    rw [z0] at c0
    rw [z1] at c1
    rw [z2] at c2
    rw [z3] at c3
    rw [z5] at c5
    rw [z6] at c6
    rw [z7] at c7
    clear z0 z1 z2 z3 z5 z6 z7 hrf HBY K3 R3
    go_wp2_with fail
    refine HRR.out.mono ?_
    rintro e w4 ⟨rfl, b4⟩
    go_wp2_with fail
    go_ret
    exact ⟨rfl, bD.trans (b4.mono bD.size)⟩
  have f4 : decide (d ≤ 4) = true := by simpa using h4
  have hrt : rightC c = true := by rw [HRC.out, HRO.out]; simp; omega
  have hot : rightO o = true := by rw [HRO.out]; simp; omega
  rw [HBE.out, hrt] at HBY
  simp only [if_true] at HBY
  obtain ⟨S, hS⟩ : ∃ S : ByteArray, S = ⟨(encC c).toArray⟩ := ⟨_, rfl⟩
  have hSl : S.data.toList = encC c := by rw [hS]
  have hSz : S.size ≤ 488 := by rw [hS, size_arr]; exact HLE.out
  rw [← hS] at HBY
  have HRD := Lib.hid (fun W : World => oread_any S W (by omega))
  rw [hSl, readC_good c hrt HLE.out, HCO.out] at HRD
  simp only at HRD
  have HRT := Lib.hid hrt
  have HOT := Lib.hid hot
  clear hS hSl hrt hot
  go_wp2_with fail
  refine HBY.out.mono ?_
  rintro e w3 ⟨rfl, b3⟩
  clear HBY c0 c1 c2 c3 c4 c5 c6 c7
  go_wp2_with fail
  refine (HRD.out _).mono ?_
  rintro e w5 ⟨u, rfl, O5, b5⟩
  have b35 := b3.trans (b5.mono b3.size)
  have bD := bC.trans (b35.mono bC.size)
  have K3 := HK.out.below b35
  have R3 := HR.out.below b35
  have N3 := HN.out.below b35
  have R5 : OpsR w5 u c.ops := by rw [HCO.out]; exact O5.opsR (by show 1 ≤ maxLen; decide) (fun x hx => by rw [List.mem_singleton.1 hx]; exact HOO.out)
  obtain ⟨a5, c5', rfl, _⟩ := O5.form
  rw [HCA.out]
  have bF := (Below.refl _ w5).alloc (Nat.le_refl _) (.cells (cmA (.slice a5 1 c5') c) 26)
  have D6 := CmB.new w5 (.slice a5 1 c5') c
  have K6 := K3.below bF
  have R36 := R3.below bF
  have N6 := N3.below bF
  have R56 : OpsR (w5.alloc (.cells (cmA (.slice a5 1 c5') c) 26)) (.slice a5 1 c5') c.ops := R5.below bF
  have bG := bD.trans (bF.mono bD.size)
  clear HRD b3 b5 b35 bD K3 R3 N3 R5 O5 HK HR HN bC bF
  rw [show [o].length = 1 from rfl]
  go_upto_region 11 with fail
  obtain ⟨w6, hw6⟩ : ∃ w6, w6 = w5.alloc (.cells (cmA (.slice a5 1 c5') c) 26) := ⟨_, rfl⟩
  have hw6' := hw6
  rw [HCM.out] at hw6'
  rw [← hw6] at D6 K6 R36 R56 N6 bG
  rw [← hw6']
  obtain ⟨db, hdb⟩ : ∃ db, db = w5.heap.size := ⟨_, rfl⟩
  rw [← hdb] at D6 ⊢
  clear hw6 hw6' hdb
  obtain ⟨⟨c0, c1, c2, c3, c4, c5, c6, c7⟩, _⟩ := K6.cells
  obtain ⟨⟨d0, d1, d2, d3, d4, d5, d6, d7⟩, _⟩ := D6.cells
  obtain ⟨z0, z1, z2, z3, z5, z6, z7⟩ := HZ.out
  rw [z0] at c0 d0
  rw [z1] at c1 d1
  rw [z2] at c2 d2
  rw [z3] at c3 d3
  rw [z5] at c5 d5
  rw [z6] at c6 d6
  rw [z7] at c7 d7
  have HSM := Lib.hid (same_any (.slice a5 1 c5') (.slice (some ⟨ob, 0, none⟩) 1 1) c c w6 R56 R36)
  rw [eqB_self, HCA.out, HCA.out] at HSM
  have HK6 := Lib.hid K6
  have HR6 := Lib.hid R36
  have HN6 := Lib.hid N6
  clear D6 K6 R36 R56 N6 z0 z1 z2 z3 z5 z6 z7
  go_wp2_with fail
  refine HSM.out.mono ?_
  rintro e w7 ⟨rfl, b7⟩
  have K7 := HK6.out.below b7
  have R7 := HR6.out.below b7
  have N7 := HN6.out.below b7
  have bH := bG.trans (b7.mono bG.size)
  have HRR := Lib.hid (rightcm_any (.slice (some ⟨ob, 0, none⟩) 1 1) c w7 ⟨HCC.out, _, rfl, R7⟩)
  rw [HRT.out, HCA.out] at HRR
  clear c0 c1 c2 c3 c4 c5 c6 c7 d0 d1 d2 d3 d4 d5 d6 d7 HSM b7 bG HK6 HR6 HN6
  obtain ⟨⟨c0, c1, c2, c3, c4, c5, c6, c7⟩, _⟩ := K7.cells
  obtain ⟨z0, z1, z2, z3, z5, z6, z7⟩ := HZ.out
  rw [z0] at c0
  rw [z1] at c1
  rw [z2] at c2
  rw [z3] at c3
  rw [z5] at c5
  rw [z6] at c6
  rw [z7] at c7
  have HK7 := Lib.hid K7
  have HN7 := Lib.hid N7
  clear K7 R7 N7 z0 z1 z2 z3 z5 z6 z7
  go_wp2_with fail
  refine HRR.out.mono ?_
  rintro e w8 ⟨rfl, b8⟩
  have K8 := HK7.out.below b8
  have N8 := HN7.out.below b8
  have bI := bH.trans (b8.mono bH.size)
  have HRO2 := Lib.hid (rightop_any o w8 HOO.out.path HOO.out.data)
  rw [HOT.out, HOV.out] at HRO2
  clear c0 c1 c2 c3 c4 c5 c6 c7 HRR b8 bH HK7 HN7
  obtain ⟨⟨c0, c1, c2, c3, c4, c5, c6, c7⟩, _⟩ := K8.cells
  obtain ⟨⟨n0, n1, n2, n3, n4, n5⟩, _⟩ := N8.cells
  have hoe : o.does = d ∧ o.path = ⟨#[47, 97]⟩ ∧ o.data = ⟨#[]⟩ ∧ o.ver = 0 ∧ o.ser = false ∧ o.own = false := by
    have := HOV.out
    unfold opV at this
    simpa using this
  obtain ⟨y0, y1, y2, y3, y4, y5⟩ := hoe
  rw [y0] at n0
  rw [y1] at n1
  rw [y2] at n2
  rw [y3] at n3
  rw [y4] at n4
  rw [y5] at n5
  clear K8 N8 y0 y1 y2 y3 y4 y5
  go_wp2_with fail
  refine HRO2.out.mono ?_
  rintro e w9 ⟨rfl, b9⟩
  go_wp2_with fail
  go_ret
  exact ⟨rfl, bI.trans (b9.mono bI.size)⟩

theorem own : ownKnob Try.prog.godebug = none := by kernel_rfl
theorem laidOut : laidOutB Try.prog = true := by kernel_rfl

set_option maxRecDepth 100000 in
theorem lifted (os : Os) (started : os.Started) (H : Type) (enc : TypeId × Value → H) :
    ReturnsInHanded {} Try.checked os 7 .any (Rows.opKindsSpec.pre6 enc Try.prog Try.f7 Rows.opKindsRow.domain false) (Rows.opKindsSpec.post enc Try.prog Try.f7 false true false false) := by
  refine returnsInHanded_of_change (C := Try.checked) own started (by kernel_rfl) Try.func7
    (ChangeSpec.witness6 (enc := enc) (C := Try.checked) false ⟨#[], #[.int .i64 0, .int .i64 0], []⟩ 8 (by kernel_rfl) (by kernel_rfl) (by kernel_rfl) (by kernel_rfl)) ?_
  intro W base args ds gs before hval0 hW hcnd _
  have hval : ∀ (j : Nat) t v, Try.f7.params[j]? = some t → args[j]? = some v → Value.okWide Try.prog W .any base t v := hval0
  have hW' := hW
  obtain ⟨p, q, hA0, hV, rfl, hfz, hnd⟩ := hW
  have hA : DataW.TrodAll enc Try.prog W 0 (fun _ => true) true Try.f7.params.toList args.toList ds p := hA0
  rw [Try.params7] at hA hval
  obtain ⟨v0, vs0, d0, ds0, p0, q0, hargs, rfl, rfl, h0, r0⟩ := trodAll_cons hA
  obtain ⟨v1, vs1, d1, ds1, p1, q1, rfl, rfl, rfl, h1, r1⟩ := trodAll_cons r0
  obtain ⟨rfl, rfl, rfl⟩ := trodAll_nil r1
  obtain rfl : args = #[v0, v1] := by cases args; simp_all
  obtain ⟨rfl, rfl⟩ := trodVars_none hV
  obtain ⟨a0, rfl, rfl, rfl, w0⟩ := open_int Try.underlying3 (hval 0 3 v0 rfl rfl) h0
  obtain ⟨a1, rfl, rfl, rfl, w1⟩ := open_int Try.underlying3 (hval 1 3 v1 rfl rfl) h1
  clear hA0 hval0
  refine (walk a0 a1 W w0 w1).mono fun e W' ⟨he, bel⟩ => ?_
  subst he
  exact ⟨_, rfl, _, _, _, [], _, [], hW', trodAll_mk1 (shut_bool Try.underlying4 _), (trodAll_cons_mk (shut_int Try.underlying3 w0) (trodAll_cons_mk (shut_int Try.underlying3 w1) trodAll_mk0)), rfl, bel.frame _, fun h => by cases h⟩

theorem over : Rows.opKindsRow.holds Try.pinned (OpenSpec.ofChange Rows.opKindsSpec) :=
  OpenClaim.holds_of_wide 7 Try.f7 rfl rfl rfl rfl rfl rfl rfl ⟨rfl, rfl, rfl, rfl, rfl⟩ rfl rfl rfl rfl rfl (by kernel_rfl) Try.func7 (by kernel_rfl)
    (of_decide_eq_true (by kernel_rfl)) (by unfold Func.isWrapper; first | (rw [if_pos (by decide +kernel)]; kernel_rfl) | (rw [if_neg (by decide +kernel)]; exact ⟨rfl, rfl⟩))
    (fun os started H enc _ => lifted os started H enc)

theorem proved : Rows.OpKindsSaid := over
end Go.Proofs.Ytkdbkbfloiponaa.opKinds
