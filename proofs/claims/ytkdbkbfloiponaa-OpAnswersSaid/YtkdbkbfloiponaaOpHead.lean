/- The law's head: the document's example holds. No conditions beyond those in each statement. -/
import Derived.Test.YtkdbkbfloiponaaOpGood
namespace Go.Proofs.Ytkdbkbfloiponaa
open Go.RowKit
set_option linter.unusedVariables false
set_option linter.unusedSimpArgs false
set_option maxRecDepth 100000

/-- The example's operation; its command. -/
def opH : Opr := ⟨1, ⟨#[47, 97]⟩, ⟨#[]⟩, -1, false, false⟩
def cmH : Cm := madeC 5 1 [opH]
theorem opH_ok : opH.Ok := ⟨by unfold InR opH; simp only; omega, by unfold opH maxLen; decide, by unfold opH maxLen; decide, by unfold InR opH; simp only; omega⟩
theorem cmH_ok : cmH.Ok := ⟨by unfold InR cmH madeC; simp only; omega, by unfold InR cmH madeC; simp only; omega, by unfold InR cmH madeC; simp only; omega, by unfold InR cmH madeC; simp only; omega, by unfold cmH madeC maxLen; decide⟩
theorem cmH_right : rightC cmH = true := by decide
theorem cmH_len : (encC cmH).length ≤ 488 := by decide
theorem cmH_bytes : bytesC cmH = (⟨(encC cmH).toArray⟩, 0) := by
  unfold bytesC; rw [if_pos cmH_right, if_neg (by have := cmH_len; omega)]
theorem OpB.opsR {w : World} {b : Nat} {o : Opr} (h : OpB w b o) (ho : o.Ok) : OpsR w (.slice (some ⟨b, 0, none⟩) 1 1) [o] := by
  refine ⟨_, 1, rfl, by show 1 ≤ maxLen; decide, fun x hx => by rw [List.mem_singleton.1 hx]; exact ho, .inr ⟨b, 0, rfl, h.lt, fun j hj => ?_⟩⟩
  match j, hj with
  | 0, _ => exact h.cells.1
theorem CmB.opsR {w : World} {base : Nat} {v : Value} {L : List Opr} (h : ORow w base v L) (hL : L.length ≤ 1000000) (ho : ∀ x ∈ L, x.Ok) : OpsR w v L := h.opsR (by unfold maxLen; omega) ho
set_option maxHeartbeats 8000000 in
theorem head_any (w : World) :
    Calls Try.prog 8 #[] w fun e w' => e = .returned (.bool true) ∧ Below w.heap.size w w' := by
  have bA := (Below.refl w.heap.size w).alloc (Nat.le_refl _) (.cells (opA opH) 50)
  have N1 := OpB.new w opH
  have HM := Lib.hid (made_any 5 1 _ [opH] _ (N1.opsR opH_ok) (by decide))
  have hrow := run_rowO w opH
  unfold opV at hrow
  have HOK : Hid (∀ x ∈ [opH], x.Ok) := Lib.hid (fun x hx => by rw [List.mem_singleton.1 hx]; exact opH_ok)
  have HB := Lib.hid bA
  obtain ⟨L1, hL1⟩ : ∃ L, L = [opH] := ⟨_, rfl⟩
  rw [← hL1] at HM HOK
  have HLN : Hid (L1.length = 1) := Lib.hid (by rw [hL1]; rfl)
  have HLC : Hid (madeC 5 1 L1 = cmH) := Lib.hid (by rw [hL1]; rfl)
  have HLO : Hid (L1 = cmH.ops) := Lib.hid (by rw [hL1]; rfl)
  clear N1 bA hL1
  simp only [opH, opA] at hrow HM HB
  go_enter Try.func8, Try.ntmps8
  go_wp2_with fail
  refine HM.out.mono ?_
  rintro e w2 ⟨v, rfl, O2, b2⟩
  have R2 := O2.opsR (by rw [HLN.out]; decide) HOK.out
  obtain ⟨a, c, rfl, _⟩ := O2.form
  rw [HLN.out, HLO.out] at R2
  rw [HLN.out, HLC.out]
  obtain ⟨w1, hw1⟩ : ∃ w1, w1 = w.alloc (.cells #[.int .i64 1, .string ⟨#[47, 97]⟩, .string ⟨#[]⟩, .int .i64 (-1), .bool false, .bool false] 50) := ⟨_, rfl⟩
  rw [← hw1] at HB b2
  have bB := HB.out.trans (b2.mono HB.out.size)
  have bC := (Below.refl _ w2).alloc (Nat.le_refl _) (.cells (cmA (.slice a 1 c) cmH) 26)
  have K3 := CmB.new w2 (.slice a 1 c) cmH
  have R3 := R2.below bC
  have bD := bB.trans (bC.mono bB.size)
  have HV : Hid (cmV (.slice a 1 c) cmH = .agg #[.int .i64 3, .int .i64 5, .int .i64 1, .int .i64 0, .slice a 1 c, .string ⟨#[]⟩, .bool false, .bool false]) := Lib.hid rfl
  rw [HV.out]
  clear hw1 HB b2 HM hrow R2 O2 bB bC HV
  go_upto_region 2 with fail
  obtain ⟨w3, hw3⟩ : ∃ w3, w3 = w2.alloc (.cells (cmA (.slice a 1 c) cmH) 26) := ⟨_, rfl⟩
  have hw3' := hw3
  simp only [cmA, cmH, madeC] at hw3'
  rw [← hw3] at K3 R3 bD
  rw [← hw3']
  obtain ⟨cb, hcb⟩ : ∃ cb, cb = w2.heap.size := ⟨_, rfl⟩
  rw [← hcb] at K3 ⊢
  clear hw3 hw3' hcb
  have HBY := Lib.hid (bytes_any (.slice a 1 c) cmH w3 ⟨cmH_ok, _, rfl, R3⟩)
  rw [cmH_bytes] at HBY
  obtain ⟨S, hS⟩ : ∃ S : ByteArray, S = ⟨(encC cmH).toArray⟩ := ⟨_, rfl⟩
  have hSl : S.data.toList = encC cmH := by rw [hS]
  have hSz : S.size ≤ 488 := by rw [hS, size_arr]; exact cmH_len
  rw [← hS] at HBY
  have HRD := Lib.hid (fun W : World => oread_any S W (by omega))
  rw [hSl, readC_good _ cmH_right cmH_len] at HRD
  obtain ⟨⟨c0, c1, c2, c3, c4, c5, c6, c7⟩, _⟩ := K3.cells
  simp only [cmH, madeC] at c0 c1 c2 c3 c5 c6 c7
  have HVC : Hid (∀ u, cmV u cmH = .agg #[.int .i64 3, .int .i64 5, .int .i64 1, .int .i64 0, u, .string ⟨#[]⟩, .bool false, .bool false]) := Lib.hid (fun u => rfl)
  have HK := Lib.hid K3
  have HR := Lib.hid R3
  rw [HVC.out] at HBY
  simp only at HBY
  clear hS hSl K3 R3
  go_wp2_with fail
  refine HBY.out.mono ?_
  rintro e w4 ⟨rfl, b4⟩
  clear HBY
  go_wp2_with fail
  refine (HRD.out _).mono ?_
  rintro e w5 ⟨u, rfl, O5, b5⟩
  have R5 := CmB.opsR O5 (by rw [← HLO.out, HLN.out]; decide) (by rw [← HLO.out]; exact HOK.out)
  obtain ⟨a5, c5', rfl, _⟩ := O5.form
  rw [← HLO.out, HLN.out, HLO.out] at R5
  rw [← HLO.out, HLN.out, HVC.out]
  have b35 := b4.trans (b5.mono b4.size)
  have bE := bD.trans (b35.mono bD.size)
  have K5 := HK.out.below b35
  have R35 := HR.out.below b35
  have bF := (Below.refl _ w5).alloc (Nat.le_refl _) (.cells (cmA (.slice a5 1 c5') cmH) 26)
  have D6 := CmB.new w5 (.slice a5 1 c5') cmH
  have K6 := K5.below bF
  have R36 := R35.below bF
  have R56 := R5.below bF
  have bG := bE.trans (bF.mono bE.size)
  clear HRD b4 b5 b35 bE K5 R35 R5 O5 HK HR bD bF
  go_upto_region 4 with fail
  obtain ⟨w6, hw6⟩ : ∃ w6, w6 = w5.alloc (.cells (cmA (.slice a5 1 c5') cmH) 26) := ⟨_, rfl⟩
  have hw6' := hw6
  simp only [cmA, cmH, madeC] at hw6'
  rw [← hw6] at D6 K6 R36 R56 bG
  try rw [show [opH].length = 1 from rfl]
  rw [← hw6']
  obtain ⟨db, hdb⟩ : ∃ db, db = w5.heap.size := ⟨_, rfl⟩
  rw [← hdb] at D6 ⊢
  clear hw6 hw6' hdb c0 c1 c2 c3 c4 c5 c6 c7
  obtain ⟨⟨c0, c1, c2, c3, c4, c5, c6, c7⟩, _⟩ := K6.cells
  obtain ⟨⟨d0, d1, d2, d3, d4, d5, d6, d7⟩, _⟩ := D6.cells
  simp only [cmH, madeC] at c0 c1 c2 c3 c5 c6 c7 d0 d1 d2 d3 d5 d6 d7
  have HSM := Lib.hid (same_any (.slice a5 1 c5') (.slice a 1 c) cmH cmH w6 R56 R36)
  rw [eqB_self, HVC.out, HVC.out] at HSM
  have HD6 := Lib.hid D6
  clear D6 K6 R36 R56
  go_wp2_with fail
  refine HSM.out.mono ?_
  rintro e w7 ⟨rfl, b7⟩
  have D7 := HD6.out.below b7
  clear d0 d1 d2 d3 d4 d5 d6 d7
  obtain ⟨⟨d0, _⟩, _⟩ := D7.cells
  simp only [cmH, madeC] at d0
  go_wp2_with fail
  go_ret
  exact ⟨rfl, bG.trans (b7.mono bG.size)⟩
/-- What is right fits a machine's words. -/
theorem rightO_ok {o : Opr} (h : rightO o = true) : o.Ok := by
  obtain ⟨h1, h2, h3, h4, h5⟩ := rightO_parts h
  exact ⟨by unfold InR; omega, by unfold maxLen; omega, by unfold maxLen; omega, by unfold InR; omega⟩
theorem rightC_ok {c : Cm} (h : rightC c = true) : c.Ok ∧ ∀ x ∈ c.ops, x.Ok := by
  obtain ⟨q1, q2, q3, q4, q5, q6, q7⟩ := rightC_parts h
  exact ⟨⟨by unfold InR; omega, by unfold InR; omega, by unfold InR; omega, by unfold InR; omega, by unfold maxLen; omega⟩, fun x hx => rightO_ok (q4 x hx)⟩
theorem textE_len2 (s : ByteArray) (h : s.size ≤ 65535) : (textE s.data.toList).length = 2 + s.size := by
  unfold textE; rw [List.length_append, be_length, List.length_take, ← Lib.size_eq]; omega
theorem textsE_len3 (s : ByteArray) (h : s.size ≤ 65535) : (textsE [s]).length = 2 + s.size := by rw [textsE_one, textE_len2 s h]
theorem encO_len2 (o : Opr) (h1 : o.path.size ≤ 65535) (h2 : o.data.size ≤ 65535) : (encO o).length = 18 + o.path.size + o.data.size := by
  unfold encO
  rw [List.length_append, List.length_append, numsE_length, flagsE_length, textsE_two, List.length_append, textE_len2 _ h1, textE_len2 _ h2]
  simp only [List.length_cons, List.length_nil]; omega
theorem clone_nil (w : World) : Calls Try.prog 34 #[.slice none 0 0] w fun e w' => e = .returned (.slice none 0 0) ∧ w' = w := by
  have q22 : ∀ (w : World) (a : Option Addr) (n c n' c' : Nat), (binOp .eql 24 (.slice a n c) (.slice none n' c')).run Try.prog w = .ok (.bool a.isNone) w := fun w a n c n' c' => Lib.run_eql_slice_nil w _ _ a n c n' c' und_ops
  go_enter Try.func34, Try.ntmps34
  go_wp2_with fail
  go_ret
  exact ⟨rfl, rfl⟩
set_option maxHeartbeats 4000000 in
theorem made_nil (s q : Int) (w : World) :
    Calls Try.prog 19 #[.int .i64 s, .int .i64 q, .slice none 0 0] w fun e w' => e = .returned (cmV (.slice none 0 0) (madeC s q [])) ∧ Below w.heap.size w w' := by
  have bA := (Below.refl w.heap.size w).alloc (Nat.le_refl _) (.cells (cmA (.slice none 0 0) Cm.zero) 26)
  have N1 := CmB.new w (.slice none 0 0) Cm.zero
  have HC := Lib.hid (clone_nil (w.alloc (.cells (cmA (.slice none 0 0) Cm.zero) 26)))
  have HN1 := Lib.hid N1
  have HB := Lib.hid bA
  clear N1
  go_enter Try.func19, Try.ntmps19
  go_wp2_with fail
  refine HC.out.mono ?_
  rintro e w2 ⟨rfl, rfl⟩
  obtain ⟨w1, hw1⟩ : ∃ w1, w1 = w.alloc (.cells (cmA (.slice none 0 0) Cm.zero) 26) := ⟨_, rfl⟩
  rw [← hw1] at HN1 HB ⊢
  have hws : w.heap.size < w1.heap.size := HN1.out.lt
  obtain ⟨⟨x0, x1, x2, x3, x4, x5, x6, x7⟩, y0, y1, y2, y3, y4, y5, y6, y7⟩ := HN1.out.cells
  simp only [Cm.zero] at x0 x1 x2 x3 x5 x6 x7
  have HZZ := Lib.hid (HN1.out.set8 (v := .slice none 0 0) (madeC s q []))
  have HBZ := Lib.hid (below8 HB.out (Nat.le_refl _) (.int .i64 3) (.int .i64 s) (.int .i64 q) (.int .i64 0) (.slice none 0 0) (.string ⟨#[]⟩) (.bool false) (.bool false))
  clear hw1 bA HC HN1 HB
  go_wp2_with fail
  exact bodyPost_ret (made_results _ _ w.heap.size (.slice none 0 0) (madeC s q []) rfl HZZ.out) rfl ⟨rfl, HBZ.out⟩
end Go.Proofs.Ytkdbkbfloiponaa
