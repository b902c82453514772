/- MsgLimits, part by part. No conditions beyond those in each statement. -/
import Derived.Test.YtddkbninkncbeaaMLimB
namespace Go.Proofs.Ytddkbninkncbeaa
open Go.RowKit
set_option linter.unusedVariables false
set_option linter.unusedSimpArgs false
set_option maxRecDepth 100000
set_option maxHeartbeats 16000000 in
theorem walk30 (a0 a1 : Int) (w : World) (hb : a1 % 2 = 0) (hq : wrap64 ((IntKind.u64.wrap a0).tmod 8) = 3) :
    Calls Try.prog 6 #[.int .i64 a0, .int .i64 a1] w fun e w' => e = .returned (.bool true) ∧ Below w.heap.size w w' := by
  have hand : bits .and .i64 a1 1 = 0 := by rw [i64_and1]; exact hb
  have HH := Lib.hid (head_any w)
  clear hb
  go_enter Try.func6, Try.ntmps6
  go_wp2_with fail
  refine HH.out.mono ?_
  rintro e w1 ⟨rfl, b1⟩
  obtain ⟨W2, hst, D2, b2⟩ := newM w1 0 0 0 0 none none mgL
  have bB := b1.trans (b2.mono b1.size)
  have hnw := b1.size
  simp only [mgV, mgL, Mg.zero] at hst
  have HST := Lib.hid hst
  obtain ⟨⟨d0, d1, d2, d3, d4, d5, d6, d7, d8, d9, d10, d11, d12, d13, d14, d15, d16⟩, f0, f1, f2, f3, f4, f5, f6, f7, f8, f9, f10, f11, f12, f13, f14, f15, f16⟩ := MgB.cells D2
  have HD2 := Lib.hid D2
  clear hst HH b1 b2 D2
  clear d0 f0 d1 f1 d2 f2 d3 f3 d4 f4 d5 f5 d6 f6 d7 f7 d9 f9 d10 f10 d11 f11 d12 f12 d13 f13 d14 f14 d15 f15 d16 f16
  skip
  skip
  skip
  have hlt2 : w1.heap.size < W2.heap.size := HD2.out.lt
  go_upto_region 24 with (refine wpList_store_run HST.out rfl rfl rfl rfl ?_)
  obtain ⟨V, hV⟩ : ∃ V, V = (W2.setCell ⟨w1.heap.size, 8, none⟩ (.slice (some ⟨W2.heap.size, 0, none⟩) 1 1)) := ⟨_, rfl⟩
  obtain ⟨w6, hw6⟩ : ∃ w6, w6 = V.alloc (.cells #[.int .i64 281474976710655, .int .i64 0, .string ⟨#[]⟩] 39) := ⟨_, rfl⟩
  obtain ⟨MM, hMM⟩ : ∃ M : Mg, M = { mgL with es := [⟨281474976710655, 0, ⟨#[]⟩⟩] } := ⟨_, rfl⟩
  have hVs : V.heap.size = W2.heap.size := by rw [hV]; simp [World.setCell]
  have DV : MgB V w1.heap.size (.slice (some ⟨W2.heap.size, 0, none⟩) 1 1) (.slice none 0 0) MM := by rw [hV, hMM]; exact MgB.putx HD2.out rfl
  have bV : Below w.heap.size w V := by rw [hV]; exact bB.setCell (p := ⟨w1.heap.size, 8, none⟩) hnw _
  have D6 : MgB w6 w1.heap.size (.slice (some ⟨W2.heap.size, 0, none⟩) 1 1) (.slice none 0 0) MM := by rw [hw6]; exact DV.below ((Below.refl _ V).alloc (Nat.le_refl _) _)
  have bF : Below w.heap.size w w6 := by rw [hw6]; exact bV.alloc bV.size _
  have RE : EnsR w6 (.slice (some ⟨W2.heap.size, 0, none⟩) 1 1) MM.es := by
    rw [hMM, hw6]
    have h := (EnB.new V (⟨281474976710655, 0, ⟨#[]⟩⟩ : Ent)).ensR ⟨by unfold InR; decide, by unfold InR; decide, by unfold maxLen; decide⟩
    rw [hVs] at h
    exact h
  have RS : SmsR w6 (.slice none 0 0) MM.ss := by rw [hMM]; exact SmsR.nil _
  have hEL : MM.es.length = 1 := by rw [hMM]; rfl
  rw [← hV, ← hw6]
  clear hV hVs DV bV hlt2
  have hOK : MM.Ok := by rw [hMM]; constructor <;> first | (unfold InR; decide) | (unfold maxLen; decide) | (show (zs _).size ≤ maxLen; rw [zs_size]; unfold maxLen; decide)
  have hRM : rightM MM = true := by rw [hMM]; decide
  have hSL : MM.ss = [] := by rw [hMM]; rfl
  clear hw6 hMM HD2 HST bB
  have hl1 := run_loadM D6
  have HBY := Lib.hid (mbytes_any _ _ MM w6 hOK RE RS)
  have HLR := Lib.hid (fun (W : World) (hW : Below w6.heap.size w6 W) => mright_any _ _ MM W hOK (RE.below hW) (RS.below hW))
  unfold mgV at hl1 HBY HLR
  have HL1 := Lib.hid hl1
  have HD6 := Lib.hid D6
  have HRE := Lib.hid RE
  have HRS := Lib.hid RS
  have HEL := Lib.hid hEL
  have HSL := Lib.hid hSL
  rw [hRM] at HLR
  have hbm : bytesM MM = (⟨(encM MM).toArray⟩, 0) := by unfold bytesM; rw [if_pos hRM]
  rw [hbm] at HBY
  obtain ⟨T, hT⟩ : ∃ T : ByteArray, T = ⟨(encM MM).toArray⟩ := ⟨_, rfl⟩
  have hTL : T.data.toList = encM MM := by rw [hT]
  have hTs : T.size ≤ 1000000 := by
    have h1 := encM_length MM
    have h2 := encEs_len MM.es
    have h3 := textE_length MM.da.data.toList
    have h4 := (rightM_parts hRM).es
    have h5 := (rightM_parts hRM).ss
    rw [hT, size_arr]; omega
  have HRD := Lib.hid (fun W : World => mread_any T W (by omega))
  rw [hTL, readM_good MM hRM (fun z hz => by rw [hSL] at hz; cases hz)] at HRD
  rw [← hT] at HBY
  have HRM := Lib.hid hRM
  clear hl1 D6 RE RS hEL hSL hRM hbm hT hTL hTs hOK
  go_wp2_with (refine wpList_load_run HL1.out rfl rfl rfl ?_)
  refine HBY.out.mono ?_
  rintro e w7 ⟨rfl, b7⟩
  have bG := bF.trans (b7.mono bF.size)
  have D7 := HD6.out.below b7
  clear HBY HL1 HD6
  go_wp2_with fail
  refine (HRD.out _).mono ?_
  rintro e w8 ⟨u8, v8, rfl, O8, S8, b8⟩
  obtain ⟨a8, c8, rfl, _⟩ := RowG.form O8
  obtain ⟨sa8, sc8, rfl, _⟩ := RowG.form S8
  have hOE := EnsR.oks HRE.out
  have R8 := ERow.ensR O8 (by rw [HEL.out]; decide) hOE
  have T8 := SRow.smsR S8 (by rw [HSL.out]; exact Nat.zero_le _) (fun z hz => by rw [HSL.out] at hz; cases hz)
  obtain ⟨W9, hst9, X9, b9⟩ := newM w8 MM.es.length c8 MM.ss.length sc8 a8 sa8 MM
  have b69 := (b7.trans (b8.mono b7.size))
  have b69' := b69.trans (b9.mono b69.size)
  have D9 := (D7.below b8).below b9
  have bH := bF.trans (b69'.mono bF.size)
  have hld9 := run_loadM D9
  have HRT := Lib.hid (HLR.out W9 b69')
  unfold mgV at hst9 hld9 ⊢
  have HST9 := Lib.hid hst9
  have HLD9 := Lib.hid hld9
  have HD9 := Lib.hid D9
  have HX9 := Lib.hid X9
  have HR9 := Lib.hid (R8.below b9)
  have HT9 := Lib.hid (T8.below b9)
  have HB69 := Lib.hid b69'
  clear hst9 hld9 D9 X9 R8 T8 O8 S8 b8 b9 D7 HRD HLR bG b69 b69' b7 hOE
  go_wp2_with (first | (refine wpList_store_run HST9.out rfl rfl rfl rfl ?_) | (refine wpList_load_run HLD9.out rfl rfl rfl ?_))
  refine HRT.out.mono ?_
  rintro e w10 ⟨rfl, b10⟩
  have D10 := HD9.out.below b10
  have X10 := HX9.out.below b10
  have bJ := bH.trans (b10.mono bH.size)
  have hld := run_loadM D10
  have hlx := run_loadM X10
  have HSM := Lib.hid (msame_any _ _ _ _ MM MM w10 (HR9.out.below b10) (HT9.out.below b10) (HRE.out.below (HB69.out.trans (b10.mono HB69.out.size))) (HRS.out.below (HB69.out.trans (b10.mono HB69.out.size))))
  rw [eqB_self] at HSM
  unfold mgV at hld hlx HSM
  have HLD := Lib.hid hld
  have HLX := Lib.hid hlx
  clear hld hlx D10 X10 HD9 HX9 HRT HST9 HLD9 bH b10 HR9 HT9 HB69 HRE HRS
  go_wp2_with (first | (refine wpList_load_g HLX.out rfl rfl (by rfl) ?_) | (refine wpList_load_g HLD.out rfl rfl (by rfl) ?_))
  refine HSM.out.mono ?_
  rintro e w11 ⟨rfl, b11⟩
  go_wp2_with fail
  go_ret
  exact ⟨rfl, bJ.trans (b11.mono bJ.size)⟩
set_option maxHeartbeats 16000000 in
theorem walk31 (a0 a1 : Int) (w : World) (hb : a1 % 2 = 1) (hq : wrap64 ((IntKind.u64.wrap a0).tmod 8) = 3) :
    Calls Try.prog 6 #[.int .i64 a0, .int .i64 a1] w fun e w' => e = .returned (.bool true) ∧ Below w.heap.size w w' := by
  have hand : bits .and .i64 a1 1 = 1 := by rw [i64_and1]; exact hb
  have HH := Lib.hid (head_any w)
  clear hb
  go_enter Try.func6, Try.ntmps6
  go_wp2_with fail
  refine HH.out.mono ?_
  rintro e w1 ⟨rfl, b1⟩
  obtain ⟨W2, hst, D2, b2⟩ := newM w1 0 0 0 0 none none mgL
  have bB := b1.trans (b2.mono b1.size)
  have hnw := b1.size
  simp only [mgV, mgL, Mg.zero] at hst
  have HST := Lib.hid hst
  obtain ⟨⟨d0, d1, d2, d3, d4, d5, d6, d7, d8, d9, d10, d11, d12, d13, d14, d15, d16⟩, f0, f1, f2, f3, f4, f5, f6, f7, f8, f9, f10, f11, f12, f13, f14, f15, f16⟩ := MgB.cells D2
  have HD2 := Lib.hid D2
  clear hst HH b1 b2 D2
  clear d0 f0 d1 f1 d2 f2 d3 f3 d4 f4 d5 f5 d6 f6 d7 f7 d9 f9 d10 f10 d11 f11 d12 f12 d13 f13 d14 f14 d15 f15 d16 f16
  skip
  skip
  skip
  have hlt2 : w1.heap.size < W2.heap.size := HD2.out.lt
  go_upto_region 24 with (refine wpList_store_run HST.out rfl rfl rfl rfl ?_)
  obtain ⟨V, hV⟩ : ∃ V, V = (W2.setCell ⟨w1.heap.size, 8, none⟩ (.slice (some ⟨W2.heap.size, 0, none⟩) 1 1)) := ⟨_, rfl⟩
  obtain ⟨w6, hw6⟩ : ∃ w6, w6 = V.alloc (.cells #[.int .i64 281474976710656, .int .i64 0, .string ⟨#[]⟩] 39) := ⟨_, rfl⟩
  obtain ⟨MM, hMM⟩ : ∃ M : Mg, M = { mgL with es := [⟨281474976710656, 0, ⟨#[]⟩⟩] } := ⟨_, rfl⟩
  have hVs : V.heap.size = W2.heap.size := by rw [hV]; simp [World.setCell]
  have DV : MgB V w1.heap.size (.slice (some ⟨W2.heap.size, 0, none⟩) 1 1) (.slice none 0 0) MM := by rw [hV, hMM]; exact MgB.putx HD2.out rfl
  have bV : Below w.heap.size w V := by rw [hV]; exact bB.setCell (p := ⟨w1.heap.size, 8, none⟩) hnw _
  have D6 : MgB w6 w1.heap.size (.slice (some ⟨W2.heap.size, 0, none⟩) 1 1) (.slice none 0 0) MM := by rw [hw6]; exact DV.below ((Below.refl _ V).alloc (Nat.le_refl _) _)
  have bF : Below w.heap.size w w6 := by rw [hw6]; exact bV.alloc bV.size _
  have RE : EnsR w6 (.slice (some ⟨W2.heap.size, 0, none⟩) 1 1) MM.es := by
    rw [hMM, hw6]
    have h := (EnB.new V (⟨281474976710656, 0, ⟨#[]⟩⟩ : Ent)).ensR ⟨by unfold InR; decide, by unfold InR; decide, by unfold maxLen; decide⟩
    rw [hVs] at h
    exact h
  have RS : SmsR w6 (.slice none 0 0) MM.ss := by rw [hMM]; exact SmsR.nil _
  have hEL : MM.es.length = 1 := by rw [hMM]; rfl
  rw [← hV, ← hw6]
  clear hV hVs DV bV hlt2
  have hOK : MM.Ok := by rw [hMM]; constructor <;> first | (unfold InR; decide) | (unfold maxLen; decide) | (show (zs _).size ≤ maxLen; rw [zs_size]; unfold maxLen; decide)
  have hRM : rightM MM = false := by rw [hMM]; decide
  have hSL : MM.ss = [] := by rw [hMM]; rfl
  clear hw6 hMM HD2 HST bB
  have hl1 := run_loadM D6
  have HBY := Lib.hid (mbytes_any _ _ MM w6 hOK RE RS)
  have HLR := Lib.hid (fun (W : World) (hW : Below w6.heap.size w6 W) => mright_any _ _ MM W hOK (RE.below hW) (RS.below hW))
  unfold mgV at hl1 HBY HLR
  have HL1 := Lib.hid hl1
  have HD6 := Lib.hid D6
  have HRE := Lib.hid RE
  have HRS := Lib.hid RS
  have HEL := Lib.hid hEL
  have HSL := Lib.hid hSL
  rw [hRM] at HLR
  have hbm : bytesM MM = (⟨#[]⟩, 1) := by unfold bytesM; rw [if_neg (by rw [hRM]; exact Bool.false_ne_true)]
  rw [hbm] at HBY
  have HRD := Lib.hid (fun W : World => mread_any ⟨#[]⟩ W (by decide))
  rw [show (⟨#[]⟩ : ByteArray).data.toList = [] from rfl, readM_nil] at HRD
  clear hl1 D6 RE RS hEL hSL hRM hbm hOK
  go_wp2_with (refine wpList_load_run HL1.out rfl rfl rfl ?_)
  refine HBY.out.mono ?_
  rintro e w7 ⟨rfl, b7⟩
  have D7 := HD6.out.below b7
  clear HBY HL1 HD6
  go_wp2_with fail
  refine (HRD.out _).mono ?_
  rintro e w8 ⟨u8, v8, rfl, O8, S8, b8⟩
  obtain ⟨a8, c8, rfl, _⟩ := RowG.form O8
  obtain ⟨sa8, sc8, rfl, _⟩ := RowG.form S8
  obtain ⟨W9, hst9, X9, b9⟩ := newM w8 0 c8 0 sc8 a8 sa8 Mg.zero
  have b69 := (b7.trans (b8.mono b7.size))
  have b69' := b69.trans (b9.mono b69.size)
  have D9 := (D7.below b8).below b9
  have bH := bF.trans (b69'.mono bF.size)
  have hld9 := run_loadM D9
  have HRT := Lib.hid (HLR.out W9 b69')
  rw [show Mg.zero.es.length = 0 from rfl, show Mg.zero.ss.length = 0 from rfl]
  simp only [mgV, Mg.zero] at hst9 ⊢
  unfold mgV at hld9
  have HST9 := Lib.hid hst9
  have HLD9 := Lib.hid hld9
  clear hst9 hld9 D9 X9 O8 S8 b8 b9 D7 HRD HLR b69 b69' b7
  go_wp2_with (first | (refine wpList_store_run HST9.out rfl rfl rfl rfl ?_) | (refine wpList_load_run HLD9.out rfl rfl rfl ?_))
  refine HRT.out.mono ?_
  rintro e w10 ⟨rfl, b10⟩
  go_wp2_with fail
  go_ret
  exact ⟨rfl, bH.trans (b10.mono bH.size)⟩
set_option maxHeartbeats 16000000 in
theorem walk40 (a0 a1 : Int) (w : World) (hb : a1 % 2 = 0) (hq : wrap64 ((IntKind.u64.wrap a0).tmod 8) = 4) :
    Calls Try.prog 6 #[.int .i64 a0, .int .i64 a1] w fun e w' => e = .returned (.bool true) ∧ Below w.heap.size w w' := by
  have hand : bits .and .i64 a1 1 = 0 := by rw [i64_and1]; exact hb
  have HH := Lib.hid (head_any w)
  clear hb
  go_enter Try.func6, Try.ntmps6
  go_wp2_with fail
  refine HH.out.mono ?_
  rintro e w1 ⟨rfl, b1⟩
  obtain ⟨W2, hst, D2, b2⟩ := newM w1 0 0 0 0 none none mgL
  have bB := b1.trans (b2.mono b1.size)
  have hnw := b1.size
  simp only [mgV, mgL, Mg.zero] at hst
  have HST := Lib.hid hst
  obtain ⟨⟨d0, d1, d2, d3, d4, d5, d6, d7, d8, d9, d10, d11, d12, d13, d14, d15, d16⟩, f0, f1, f2, f3, f4, f5, f6, f7, f8, f9, f10, f11, f12, f13, f14, f15, f16⟩ := MgB.cells D2
  have HD2 := Lib.hid D2
  clear hst HH b1 b2 D2
  clear d0 f0 d1 f1 d2 f2 d3 f3 d4 f4 d5 f5 d6 f6 d7 f7 d9 f9 d10 f10 d11 f11 d12 f12 d13 f13 d14 f14 d15 f15 d16 f16
  skip
  skip
  have hmk : ∀ W : World, (Instr.makeSlice 23 (.int .i64 4) (.int .i64 4)).run Try.prog W = .ok (.slice (some ⟨W.heap.size, 0, none⟩) 4 4) (W.alloc (.cells (ecells 4) 39)) := make_ents 4 (by decide) (by kernel_rfl)
  have hlt2 : w1.heap.size < W2.heap.size := HD2.out.lt
  go_upto_region 24 with (refine wpList_store_run HST.out rfl rfl rfl rfl ?_)
  obtain ⟨V, hV⟩ : ∃ V, V = (W2.setCell ⟨w1.heap.size, 8, none⟩ (.slice (some ⟨W2.heap.size, 0, none⟩) 4 4)) := ⟨_, rfl⟩
  obtain ⟨w6, hw6⟩ : ∃ w6, w6 = V.alloc (.cells (ecells 4) 39) := ⟨_, rfl⟩
  obtain ⟨MM, hMM⟩ : ∃ M : Mg, M = { mgL with es := List.replicate 4 Ent.zero } := ⟨_, rfl⟩
  have hVs : V.heap.size = W2.heap.size := by rw [hV]; simp [World.setCell]
  have DV : MgB V w1.heap.size (.slice (some ⟨W2.heap.size, 0, none⟩) 4 4) (.slice none 0 0) MM := by rw [hV, hMM]; exact MgB.putx HD2.out rfl
  have bV : Below w.heap.size w V := by rw [hV]; exact bB.setCell (p := ⟨w1.heap.size, 8, none⟩) hnw _
  have D6 : MgB w6 w1.heap.size (.slice (some ⟨W2.heap.size, 0, none⟩) 4 4) (.slice none 0 0) MM := by rw [hw6]; exact DV.below ((Below.refl _ V).alloc (Nat.le_refl _) _)
  have bF : Below w.heap.size w w6 := by rw [hw6]; exact bV.alloc bV.size _
  have RE : EnsR w6 (.slice (some ⟨W2.heap.size, 0, none⟩) 4 4) MM.es := by
    rw [hMM, hw6]
    have h := ents_made V 4 (by decide)
    rw [hVs] at h
    exact h
  have RS : SmsR w6 (.slice none 0 0) MM.ss := by rw [hMM]; exact SmsR.nil _
  have hEL : MM.es.length = 4 := by rw [hMM]; rfl
  rw [← hV, ← hw6]
  clear hV hVs DV bV hlt2 hmk
  have hOK : MM.Ok := by rw [hMM]; constructor <;> first | (unfold InR; decide) | (unfold maxLen; decide) | (show (zs _).size ≤ maxLen; rw [zs_size]; unfold maxLen; decide)
  have hRM : rightM MM = true := by rw [hMM]; decide
  have hSL : MM.ss = [] := by rw [hMM]; rfl
  clear hw6 hMM HD2 HST bB
  have hl1 := run_loadM D6
  have HBY := Lib.hid (mbytes_any _ _ MM w6 hOK RE RS)
  have HLR := Lib.hid (fun (W : World) (hW : Below w6.heap.size w6 W) => mright_any _ _ MM W hOK (RE.below hW) (RS.below hW))
  unfold mgV at hl1 HBY HLR
  have HL1 := Lib.hid hl1
  have HD6 := Lib.hid D6
  have HRE := Lib.hid RE
  have HRS := Lib.hid RS
  have HEL := Lib.hid hEL
  have HSL := Lib.hid hSL
  rw [hRM] at HLR
  have hbm : bytesM MM = (⟨(encM MM).toArray⟩, 0) := by unfold bytesM; rw [if_pos hRM]
  rw [hbm] at HBY
  obtain ⟨T, hT⟩ : ∃ T : ByteArray, T = ⟨(encM MM).toArray⟩ := ⟨_, rfl⟩
  have hTL : T.data.toList = encM MM := by rw [hT]
  have hTs : T.size ≤ 1000000 := by
    have h1 := encM_length MM
    have h2 := encEs_len MM.es
    have h3 := textE_length MM.da.data.toList
    have h4 := (rightM_parts hRM).es
    have h5 := (rightM_parts hRM).ss
    rw [hT, size_arr]; omega
  have HRD := Lib.hid (fun W : World => mread_any T W (by omega))
  rw [hTL, readM_good MM hRM (fun z hz => by rw [hSL] at hz; cases hz)] at HRD
  rw [← hT] at HBY
  have HRM := Lib.hid hRM
  clear hl1 D6 RE RS hEL hSL hRM hbm hT hTL hTs hOK
  go_wp2_with (refine wpList_load_run HL1.out rfl rfl rfl ?_)
  refine HBY.out.mono ?_
  rintro e w7 ⟨rfl, b7⟩
  have bG := bF.trans (b7.mono bF.size)
  have D7 := HD6.out.below b7
  clear HBY HL1 HD6
  go_wp2_with fail
  refine (HRD.out _).mono ?_
  rintro e w8 ⟨u8, v8, rfl, O8, S8, b8⟩
  obtain ⟨a8, c8, rfl, _⟩ := RowG.form O8
  obtain ⟨sa8, sc8, rfl, _⟩ := RowG.form S8
  have hOE := EnsR.oks HRE.out
  have R8 := ERow.ensR O8 (by rw [HEL.out]; decide) hOE
  have T8 := SRow.smsR S8 (by rw [HSL.out]; exact Nat.zero_le _) (fun z hz => by rw [HSL.out] at hz; cases hz)
  obtain ⟨W9, hst9, X9, b9⟩ := newM w8 MM.es.length c8 MM.ss.length sc8 a8 sa8 MM
  have b69 := (b7.trans (b8.mono b7.size))
  have b69' := b69.trans (b9.mono b69.size)
  have D9 := (D7.below b8).below b9
  have bH := bF.trans (b69'.mono bF.size)
  have hld9 := run_loadM D9
  have HRT := Lib.hid (HLR.out W9 b69')
  unfold mgV at hst9 hld9 ⊢
  have HST9 := Lib.hid hst9
  have HLD9 := Lib.hid hld9
  have HD9 := Lib.hid D9
  have HX9 := Lib.hid X9
  have HR9 := Lib.hid (R8.below b9)
  have HT9 := Lib.hid (T8.below b9)
  have HB69 := Lib.hid b69'
  clear hst9 hld9 D9 X9 R8 T8 O8 S8 b8 b9 D7 HRD HLR bG b69 b69' b7 hOE
  go_wp2_with (first | (refine wpList_store_run HST9.out rfl rfl rfl rfl ?_) | (refine wpList_load_run HLD9.out rfl rfl rfl ?_))
  refine HRT.out.mono ?_
  rintro e w10 ⟨rfl, b10⟩
  have D10 := HD9.out.below b10
  have X10 := HX9.out.below b10
  have bJ := bH.trans (b10.mono bH.size)
  have hld := run_loadM D10
  have hlx := run_loadM X10
  have HSM := Lib.hid (msame_any _ _ _ _ MM MM w10 (HR9.out.below b10) (HT9.out.below b10) (HRE.out.below (HB69.out.trans (b10.mono HB69.out.size))) (HRS.out.below (HB69.out.trans (b10.mono HB69.out.size))))
  rw [eqB_self] at HSM
  unfold mgV at hld hlx HSM
  have HLD := Lib.hid hld
  have HLX := Lib.hid hlx
  clear hld hlx D10 X10 HD9 HX9 HRT HST9 HLD9 bH b10 HR9 HT9 HB69 HRE HRS
  go_wp2_with (first | (refine wpList_load_g HLX.out rfl rfl (by rfl) ?_) | (refine wpList_load_g HLD.out rfl rfl (by rfl) ?_))
  refine HSM.out.mono ?_
  rintro e w11 ⟨rfl, b11⟩
  go_wp2_with fail
  go_ret
  exact ⟨rfl, bJ.trans (b11.mono bJ.size)⟩
set_option maxHeartbeats 16000000 in
theorem walk41 (a0 a1 : Int) (w : World) (hb : a1 % 2 = 1) (hq : wrap64 ((IntKind.u64.wrap a0).tmod 8) = 4) :
    Calls Try.prog 6 #[.int .i64 a0, .int .i64 a1] w fun e w' => e = .returned (.bool true) ∧ Below w.heap.size w w' := by
  have hand : bits .and .i64 a1 1 = 1 := by rw [i64_and1]; exact hb
  have HH := Lib.hid (head_any w)
  clear hb
  go_enter Try.func6, Try.ntmps6
  go_wp2_with fail
  refine HH.out.mono ?_
  rintro e w1 ⟨rfl, b1⟩
  obtain ⟨W2, hst, D2, b2⟩ := newM w1 0 0 0 0 none none mgL
  have bB := b1.trans (b2.mono b1.size)
  have hnw := b1.size
  simp only [mgV, mgL, Mg.zero] at hst
  have HST := Lib.hid hst
  obtain ⟨⟨d0, d1, d2, d3, d4, d5, d6, d7, d8, d9, d10, d11, d12, d13, d14, d15, d16⟩, f0, f1, f2, f3, f4, f5, f6, f7, f8, f9, f10, f11, f12, f13, f14, f15, f16⟩ := MgB.cells D2
  have HD2 := Lib.hid D2
  clear hst HH b1 b2 D2
  clear d0 f0 d1 f1 d2 f2 d3 f3 d4 f4 d5 f5 d6 f6 d7 f7 d9 f9 d10 f10 d11 f11 d12 f12 d13 f13 d14 f14 d15 f15 d16 f16
  skip
  skip
  have hmk : ∀ W : World, (Instr.makeSlice 23 (.int .i64 5) (.int .i64 5)).run Try.prog W = .ok (.slice (some ⟨W.heap.size, 0, none⟩) 5 5) (W.alloc (.cells (ecells 5) 39)) := make_ents 5 (by decide) (by kernel_rfl)
  have hlt2 : w1.heap.size < W2.heap.size := HD2.out.lt
  go_upto_region 24 with (refine wpList_store_run HST.out rfl rfl rfl rfl ?_)
  obtain ⟨V, hV⟩ : ∃ V, V = (W2.setCell ⟨w1.heap.size, 8, none⟩ (.slice (some ⟨W2.heap.size, 0, none⟩) 5 5)) := ⟨_, rfl⟩
  obtain ⟨w6, hw6⟩ : ∃ w6, w6 = V.alloc (.cells (ecells 5) 39) := ⟨_, rfl⟩
  obtain ⟨MM, hMM⟩ : ∃ M : Mg, M = { mgL with es := List.replicate 5 Ent.zero } := ⟨_, rfl⟩
  have hVs : V.heap.size = W2.heap.size := by rw [hV]; simp [World.setCell]
  have DV : MgB V w1.heap.size (.slice (some ⟨W2.heap.size, 0, none⟩) 5 5) (.slice none 0 0) MM := by rw [hV, hMM]; exact MgB.putx HD2.out rfl
  have bV : Below w.heap.size w V := by rw [hV]; exact bB.setCell (p := ⟨w1.heap.size, 8, none⟩) hnw _
  have D6 : MgB w6 w1.heap.size (.slice (some ⟨W2.heap.size, 0, none⟩) 5 5) (.slice none 0 0) MM := by rw [hw6]; exact DV.below ((Below.refl _ V).alloc (Nat.le_refl _) _)
  have bF : Below w.heap.size w w6 := by rw [hw6]; exact bV.alloc bV.size _
  have RE : EnsR w6 (.slice (some ⟨W2.heap.size, 0, none⟩) 5 5) MM.es := by
    rw [hMM, hw6]
    have h := ents_made V 5 (by decide)
    rw [hVs] at h
    exact h
  have RS : SmsR w6 (.slice none 0 0) MM.ss := by rw [hMM]; exact SmsR.nil _
  have hEL : MM.es.length = 5 := by rw [hMM]; rfl
  rw [← hV, ← hw6]
  clear hV hVs DV bV hlt2 hmk
  have hOK : MM.Ok := by rw [hMM]; constructor <;> first | (unfold InR; decide) | (unfold maxLen; decide) | (show (zs _).size ≤ maxLen; rw [zs_size]; unfold maxLen; decide)
  have hRM : rightM MM = false := by rw [hMM]; decide
  have hSL : MM.ss = [] := by rw [hMM]; rfl
  clear hw6 hMM HD2 HST bB
  have hl1 := run_loadM D6
  have HBY := Lib.hid (mbytes_any _ _ MM w6 hOK RE RS)
  have HLR := Lib.hid (fun (W : World) (hW : Below w6.heap.size w6 W) => mright_any _ _ MM W hOK (RE.below hW) (RS.below hW))
  unfold mgV at hl1 HBY HLR
  have HL1 := Lib.hid hl1
  have HD6 := Lib.hid D6
  have HRE := Lib.hid RE
  have HRS := Lib.hid RS
  have HEL := Lib.hid hEL
  have HSL := Lib.hid hSL
  rw [hRM] at HLR
  have hbm : bytesM MM = (⟨#[]⟩, 1) := by unfold bytesM; rw [if_neg (by rw [hRM]; exact Bool.false_ne_true)]
  rw [hbm] at HBY
  have HRD := Lib.hid (fun W : World => mread_any ⟨#[]⟩ W (by decide))
  rw [show (⟨#[]⟩ : ByteArray).data.toList = [] from rfl, readM_nil] at HRD
  clear hl1 D6 RE RS hEL hSL hRM hbm hOK
  go_wp2_with (refine wpList_load_run HL1.out rfl rfl rfl ?_)
  refine HBY.out.mono ?_
  rintro e w7 ⟨rfl, b7⟩
  have D7 := HD6.out.below b7
  clear HBY HL1 HD6
  go_wp2_with fail
  refine (HRD.out _).mono ?_
  rintro e w8 ⟨u8, v8, rfl, O8, S8, b8⟩
  obtain ⟨a8, c8, rfl, _⟩ := RowG.form O8
  obtain ⟨sa8, sc8, rfl, _⟩ := RowG.form S8
  obtain ⟨W9, hst9, X9, b9⟩ := newM w8 0 c8 0 sc8 a8 sa8 Mg.zero
  have b69 := (b7.trans (b8.mono b7.size))
  have b69' := b69.trans (b9.mono b69.size)
  have D9 := (D7.below b8).below b9
  have bH := bF.trans (b69'.mono bF.size)
  have hld9 := run_loadM D9
  have HRT := Lib.hid (HLR.out W9 b69')
  rw [show Mg.zero.es.length = 0 from rfl, show Mg.zero.ss.length = 0 from rfl]
  simp only [mgV, Mg.zero] at hst9 ⊢
  unfold mgV at hld9
  have HST9 := Lib.hid hst9
  have HLD9 := Lib.hid hld9
  clear hst9 hld9 D9 X9 O8 S8 b8 b9 D7 HRD HLR b69 b69' b7
  go_wp2_with (first | (refine wpList_store_run HST9.out rfl rfl rfl rfl ?_) | (refine wpList_load_run HLD9.out rfl rfl rfl ?_))
  refine HRT.out.mono ?_
  rintro e w10 ⟨rfl, b10⟩
  go_wp2_with fail
  go_ret
  exact ⟨rfl, bH.trans (b10.mono bH.size)⟩
end Go.Proofs.Ytddkbninkncbeaa
