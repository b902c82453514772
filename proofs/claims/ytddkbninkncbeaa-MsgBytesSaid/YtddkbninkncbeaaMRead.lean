/- Read of a message. No conditions beyond those in each statement. -/
import Derived.Test.YtddkbninkncbeaaMRd
import Derived.Test.YtddkbninkncbeaaMLs
namespace Go.Proofs.Ytddkbninkncbeaa
open Go.RowKit
set_option linter.unusedVariables false
set_option linter.unusedSimpArgs false
set_option maxRecDepth 100000

theorem mread_results (W : World) (tmps : Array Value) (b : Nat) (u v : Value) (n : Mg) (e : Int) (h2 : tmps.getD 2 undef = .pointer (some ⟨b, 0, none⟩)) (h3 : tmps.getD 3 undef = .int .i64 e) (hN : MgB W b u v n) :
    (results Try.f16 tmps).run Try.prog W = .ok (.tuple #[mgV u v n, .int .i64 e]) W := by
  obtain ⟨⟨c0, c1, c2, c3, c4, c5, c6, c7, c8, c9, c10, c11, c12, c13, c14, c15, c16⟩, _⟩ := MgB.cells hN
  simp at h2 h3
  simp [results, Try.results16, go_sem, h2, h3, c0, c1, c2, c3, c4, c5, c6, c7, c8, c9, c10, c11, c12, c13, c14, c15, c16, mgV]
set_option maxHeartbeats 16000000 in
theorem mread_any (s : ByteArray) (w : World) (hs : s.size ≤ 140737488355328) :
    Calls Try.prog 16 #[.string s] w fun e w' => ∃ u v, e = .returned (.tuple #[mgV u v (readM s.data.toList).1, .int .i64 (readM s.data.toList).2]) ∧ ERow w' w.heap.size u (readM s.data.toList).1.es ∧ SRow w' w.heap.size v (readM s.data.toList).1.ss ∧ Below w.heap.size w w' := by
  obtain ⟨l, hl⟩ : ∃ l, l = s.data.toList := ⟨_, rfl⟩
  have hls : l.length = s.size := by rw [hl, ← Lib.size_eq]
  have b1 := (Below.refl _ w).alloc (Nat.le_refl _) (.cells (mgA (.slice none 0 0) (.slice none 0 0) Mg.zero) 29)
  have N1 := MgB.new w (.slice none 0 0) (.slice none 0 0) Mg.zero
  have hRK : readM l = if doneF (rdM (some l)).2 = 0 ∧ rightM (rdM (some l)).1 = true then ((rdM (some l)).1, 0) else (Mg.zero, 2) := rfl
  have hOK := rdM_ok (some l)
  obtain ⟨R, hR⟩ : ∃ R, R = rdM (some l) := ⟨_, rfl⟩
  obtain ⟨Y, hY⟩ : ∃ Y, Y = readM l := ⟨_, rfl⟩
  rw [← hR] at hRK hOK
  rw [← hl, ← hY]
  rw [← hY] at hRK
  obtain ⟨A0, hA0⟩ : ∃ A, A = numF 6 8 (some l) := ⟨_, rfl⟩
  obtain ⟨A1, hA1⟩ : ∃ A, A = numF 6 281474976710655 A0.2 := ⟨_, rfl⟩
  obtain ⟨A2, hA2⟩ : ∃ A, A = numF 6 281474976710655 A1.2 := ⟨_, rfl⟩
  obtain ⟨A3, hA3⟩ : ∃ A, A = numF 6 281474976710655 A2.2 := ⟨_, rfl⟩
  obtain ⟨A4, hA4⟩ : ∃ A, A = numF 6 281474976710655 A3.2 := ⟨_, rfl⟩
  obtain ⟨A5, hA5⟩ : ∃ A, A = numF 6 281474976710655 A4.2 := ⟨_, rfl⟩
  obtain ⟨A6, hA6⟩ : ∃ A, A = numF 6 281474976710655 A5.2 := ⟨_, rfl⟩
  obtain ⟨A7, hA7⟩ : ∃ A, A = numF 6 281474976710655 A6.2 := ⟨_, rfl⟩
  obtain ⟨E, hE⟩ : ∃ E, E = rdEnts A7.2 := ⟨_, rfl⟩
  obtain ⟨K, hK⟩ : ∃ K, K = flagF E.2 := ⟨_, rfl⟩
  obtain ⟨T, hT⟩ : ∃ T, T = numF 6 3 K.2 := ⟨_, rfl⟩
  obtain ⟨Q, hQ⟩ : ∃ Q, Q = rdL T.2 := ⟨_, rfl⟩
  obtain ⟨P, hP⟩ : ∃ P, P = numF 6 281474976710655 Q.2 := ⟨_, rfl⟩
  obtain ⟨D, hD⟩ : ∃ D, D = textF 400 P.2 := ⟨_, rfl⟩
  have eR : R = (⟨A0.1, A1.1, A2.1, A3.1, A4.1, A5.1, A6.1, A7.1, E.1, K.1, T.1, Q.1.i, Q.1.t, Q.1.n, Q.1.S, P.1, ⟨D.1.toArray⟩⟩, D.2) := by
    rw [hD, hP, hQ, hT, hK, hE, hA7, hA6, hA5, hA4, hA3, hA2, hA1, hA0, hR]; rfl
  have HA0 := Lib.hid hA0
  have HA1 := Lib.hid hA1
  have HA2 := Lib.hid hA2
  have HA3 := Lib.hid hA3
  have HA4 := Lib.hid hA4
  have HA5 := Lib.hid hA5
  have HA6 := Lib.hid hA6
  have HA7 := Lib.hid hA7
  have HE := Lib.hid hE
  have HK := Lib.hid hK
  have HT := Lib.hid hT
  have HQ := Lib.hid hQ
  have HP := Lib.hid hP
  have HD := Lib.hid hD
  have HRK := Lib.hid hRK
  have HOK := Lib.hid hOK
  have HRD := Lib.hid (read_any s (w.alloc (.cells (mgA (.slice none 0 0) (.slice none 0 0) Mg.zero) 29)))
  have HN1 := Lib.hid N1
  have HER := Lib.hid eR
  clear hA0 hA1 hA2 hA3 hA4 hA5 hA6 hA7 hE hK hT hQ hP hD hR hY hRK hOK N1 eR
  unfold mgA at HRD
  simp only [Mg.zero] at HRD
  go_enter Try.func16, Try.ntmps16
  go_wp2_with fail
  refine HRD.out.mono ?_
  rintro e w2 ⟨rfl, R2, b2, hsz2⟩
  obtain ⟨w1, hw1⟩ : ∃ w1, w1 = w.alloc (.cells (mgA (.slice none 0 0) (.slice none 0 0) Mg.zero) 29) := ⟨_, rfl⟩
  have hw1' := hw1
  unfold mgA at hw1'
  simp only [Mg.zero] at hw1'
  rw [← hw1] at b1 HN1
  rw [← hw1'] at b2 hsz2 R2 ⊢
  have hw1s : w1.heap.size = w.heap.size + 1 := by rw [hw1]; simp
  have R2' : Rs w2 w1.heap.size (some l) := ⟨by rw [hl, ← mk_data]; exact R2, by rw [hls]; omega⟩
  obtain ⟨rb, hrb⟩ : ∃ rb, rb = w1.heap.size := ⟨_, rfl⟩
  rw [← hrb] at R2' ⊢
  have hrw : w.heap.size < rb := by omega
  have b12 := b1.trans (b2.mono b1.size)
  have N2 := HN1.out.below b2
  have hrl := R2'.lt
  have HC0 := Lib.hid (num_rs rb 8 _ w2 R2')
  rw [show max (8 : Int) 0 = 8 by decide, ← HA0.out] at HC0
  have HC1 := Lib.hid (fun (W : World) (hW : Rs W rb A0.2) => num_rs rb 281474976710655 _ W hW)
  rw [show max (281474976710655 : Int) 0 = 281474976710655 by decide, ← HA1.out] at HC1
  have HC2 := Lib.hid (fun (W : World) (hW : Rs W rb A1.2) => num_rs rb 281474976710655 _ W hW)
  rw [show max (281474976710655 : Int) 0 = 281474976710655 by decide, ← HA2.out] at HC2
  have HC3 := Lib.hid (fun (W : World) (hW : Rs W rb A2.2) => num_rs rb 281474976710655 _ W hW)
  rw [show max (281474976710655 : Int) 0 = 281474976710655 by decide, ← HA3.out] at HC3
  have HC4 := Lib.hid (fun (W : World) (hW : Rs W rb A3.2) => num_rs rb 281474976710655 _ W hW)
  rw [show max (281474976710655 : Int) 0 = 281474976710655 by decide, ← HA4.out] at HC4
  have HC5 := Lib.hid (fun (W : World) (hW : Rs W rb A4.2) => num_rs rb 281474976710655 _ W hW)
  rw [show max (281474976710655 : Int) 0 = 281474976710655 by decide, ← HA5.out] at HC5
  have HC6 := Lib.hid (fun (W : World) (hW : Rs W rb A5.2) => num_rs rb 281474976710655 _ W hW)
  rw [show max (281474976710655 : Int) 0 = 281474976710655 by decide, ← HA6.out] at HC6
  have HC7 := Lib.hid (fun (W : World) (hW : Rs W rb A6.2) => num_rs rb 281474976710655 _ W hW)
  rw [show max (281474976710655 : Int) 0 = 281474976710655 by decide, ← HA7.out] at HC7
  have HCE := Lib.hid (fun (W : World) (hW : Rs W rb A7.2) => readents_any rb _ W hW)
  rw [← HE.out] at HCE
  have HCK := Lib.hid (fun (W : World) (hW : Rs W rb E.2) => flag_rs rb _ W hW)
  rw [← HK.out] at HCK
  have HCT := Lib.hid (fun (W : World) (hW : Rs W rb K.2) => num_rs rb 3 _ W hW)
  rw [show max (3 : Int) 0 = 3 by decide, ← HT.out] at HCT
  have HCQ := Lib.hid (fun (W : World) (hW : Rs W rb T.2) => readlist_any rb _ W hW)
  rw [← HQ.out] at HCQ
  have HCP := Lib.hid (fun (W : World) (hW : Rs W rb Q.2) => num_rs rb 281474976710655 _ W hW)
  rw [show max (281474976710655 : Int) 0 = 281474976710655 by decide, ← HP.out] at HCP
  have HCD := Lib.hid (fun (W : World) (hW : Rs W rb P.2) => text_rs rb 400 _ W hW)
  rw [← HD.out] at HCD
  obtain ⟨v0, s0⟩ := A0
  obtain ⟨v1, s1⟩ := A1
  obtain ⟨v2, s2⟩ := A2
  obtain ⟨v3, s3⟩ := A3
  obtain ⟨v4, s4⟩ := A4
  obtain ⟨v5, s5⟩ := A5
  obtain ⟨v6, s6⟩ := A6
  obtain ⟨v7, s7⟩ := A7
  obtain ⟨vE, sE⟩ := E
  obtain ⟨vK, sK⟩ := K
  obtain ⟨vT, sT⟩ := T
  obtain ⟨⟨vi, vt, vn, vS⟩, sQ⟩ := Q
  obtain ⟨vP, sP⟩ := P
  obtain ⟨vD, sD⟩ := D
  simp only at HC0 HC1 HC2 HC3 HC4 HC5 HC6 HC7 HCE HCK HCT HCQ HCP HCD HER
  obtain ⟨tp, htp⟩ : ∃ tp : ByteArray, tp = ⟨vD.toArray⟩ := ⟨_, rfl⟩
  rw [← htp] at HCD HER
  have HN2 := Lib.hid N2
  have HB12 := Lib.hid b12
  clear htp hw1 hw1' hw1s hrb HRD R2 R2' b1 b2 hsz2 HN1 N2 b12 HA0 HA1 HA2 HA3 HA4 HA5 HA6 HA7 HE HK HT HQ HP HD
  go_wp2_with fail
  refine HC0.out.mono ?_
  rintro e w3 ⟨rfl, R3, g3⟩
  go_wp2_with fail
  refine (HC1.out _ R3).mono ?_
  rintro e w4 ⟨rfl, R4, g4⟩
  go_wp2_with fail
  refine (HC2.out _ R4).mono ?_
  rintro e w5 ⟨rfl, R5, g5⟩
  go_wp2_with fail
  refine (HC3.out _ R5).mono ?_
  rintro e w6 ⟨rfl, R6, g6⟩
  go_wp2_with fail
  refine (HC4.out _ R6).mono ?_
  rintro e w7 ⟨rfl, R7, g7⟩
  go_wp2_with fail
  refine (HC5.out _ R7).mono ?_
  rintro e w8 ⟨rfl, R8, g8⟩
  go_wp2_with fail
  refine (HC6.out _ R8).mono ?_
  rintro e w9 ⟨rfl, R9, g9⟩
  go_wp2_with fail
  refine (HC7.out _ R9).mono ?_
  rintro e w10 ⟨rfl, R10, g10⟩
  have gA := only_trans (only_trans (only_trans (only_trans (only_trans (only_trans (only_trans g3 g4) g5) g6) g7) g8) g9) g10
  have hrw10 : rb < w10.heap.size := R10.lt
  have hsA := gA.size
  clear g3 g4 g5 g6 g7 g8 g9 g10 R3 R4 R5 R6 R7 R8 R9 HC0 HC1 HC2 HC3 HC4 HC5 HC6 HC7
  go_wp2_with fail
  refine (HCE.out _ R10).mono ?_
  rintro e w11 ⟨ue, rfl, O11, R11, g11⟩
  have hbe : rb < w10.heap.size := hrw10
  go_wp2_with fail
  refine (HCK.out _ R11).mono ?_
  rintro e w12 ⟨rfl, R12, g12⟩
  have O12 := O11.kept g12 hbe
  go_wp2_with fail
  refine (HCT.out _ R12).mono ?_
  rintro e w13 ⟨rfl, R13, g13⟩
  have O13 := O12.kept g13 hbe
  have hrw13 : rb < w13.heap.size := R13.lt
  go_wp2_with fail
  refine (HCQ.out _ R13).mono ?_
  rintro e w14 ⟨us, rfl, S14, R14, g14⟩
  have O14 := O13.kept g14 hbe
  obtain ⟨a, ca, rfl, _⟩ := O14.form
  obtain ⟨sa, sc, rfl, _⟩ := S14.form
  unfold lsV
  go_wp2_with fail
  refine (HCP.out _ R14).mono ?_
  rintro e w15 ⟨rfl, R15, g15⟩
  have O15 := O14.kept g15 hbe
  have S15 := S14.kept g15 hrw13
  go_wp2_with fail
  refine (HCD.out _ R15).mono ?_
  rintro e w16 ⟨rfl, R16, g16⟩
  have O16 := O15.kept g16 hbe
  have S16 := S15.kept g16 hrw13
  have gB := only_trans (only_trans (only_trans (only_trans (only_trans (only_trans gA g11) g12) g13) g14) g15) g16
  have hs13 : w2.heap.size ≤ w13.heap.size := (only_trans (only_trans (only_trans gA g11) g12) g13).size
  have bC := HB12.out.grown gB HB12.out.size (fun q hq => by have := Option.some.inj hq; omega)
  have N16 := HN2.out.kept gB (fun e => by have := Option.some.inj e; omega)
  have hw16 := bC.size
  have hN2s := HN2.out.lt
  have hrl16 := R16.lt
  obtain ⟨c, hc⟩ : ∃ c : Mg, c = ⟨v0, v1, v2, v3, v4, v5, v6, v7, vE, vK, vT, vi, vt, vn, vS, vP, tp⟩ := ⟨_, rfl⟩
  have HCC : Hid (R = (c, sD)) := Lib.hid (by rw [HER.out, hc])
  have bCb := (Below.refl _ w16).alloc (Nat.le_refl _) (.cells (mgA (.slice a vE.length ca) (.slice sa vS.length sc) c) 29)
  have K17 := MgB.new w16 (.slice a vE.length ca) (.slice sa vS.length sc) c
  have N17 := N16.below bCb
  have R17 := R16.below bCb
  have O17 := (O16.below bCb).less (base' := w.heap.size + 1) (by omega)
  have S17 := (S16.below bCb).less (base' := w.heap.size + 1) (by omega)
  have b17 := bC.trans (bCb.mono bC.size)
  clear R10 R11 R12 R13 R14 R15 R16 g11 g12 g13 g14 g15 g16 gA gB HCE HCK HCT HCQ HCP HCD N16 bC HB12 HN2 O11 O12 O13 O14 O15 O16 S14 S15 S16
  go_upto_region 3 with fail
  obtain ⟨w17, hw17⟩ : ∃ w17, w17 = w16.alloc (.cells (mgA (.slice a vE.length ca) (.slice sa vS.length sc) c) 29) := ⟨_, rfl⟩
  have hw17' := hw17
  unfold mgA at hw17'
  simp only [hc] at hw17'
  rw [← hw17] at K17 N17 R17 b17 O17 S17
  rw [← hw17']
  obtain ⟨cb, hcb⟩ : ∃ cb, cb = w16.heap.size := ⟨_, rfl⟩
  rw [← hcb] at K17 ⊢
  have hvE : vE = c.es := by rw [hc]
  have hvS : vS = c.ss := by rw [hc]
  rw [HCC.out] at HRK HOK
  simp only at HRK HOK
  have hcbN : w.heap.size ≠ cb := by omega
  clear hw17 hw17' hcb HER HCC hc bCb
  rw [hvE] at K17 O17
  rw [hvS] at K17 S17
  clear hvE hvS
  have HO17 := Lib.hid O17
  have HS17 := Lib.hid S17
  have HRC := Lib.hid (mright_any (.slice a c.es.length ca) (.slice sa c.ss.length sc) c w17 HOK.out.1 (ERow.ensR O17 (Nat.le_trans HOK.out.2.1 (show 4 ≤ maxLen by decide)) HOK.out.2.2.1) (SRow.smsR S17 (Nat.le_trans HOK.out.2.2.2.1 (show 64 ≤ maxLen by decide)) HOK.out.2.2.2.2))
  have HDN := Lib.hid (done_rs rb sD w17 R17)
  have hd2 : doneF sD = 0 ∨ doneF sD = 2 := by unfold doneF; split <;> simp
  have HK17 := Lib.hid K17
  have HN17 := Lib.hid N17
  unfold mgV at HRC
  obtain ⟨cr, hcr⟩ : ∃ cr, cr = rightM c := ⟨_, rfl⟩
  rw [← hcr] at HRC HRK
  clear hcr O17 S17 R17 K17 N17 hrw10 hbe hrw13 hs13 hw16 hN2s hrl16 hrl hsA
  rcases hd2 with hdz | hdz
  · rw [hdz] at HDN HRK
    obtain ⟨⟨c0, c1, c2, c3, c4, c5, c6, c7, c8, c9, c10, c11, c12, c13, c14, c15, c16⟩, _⟩ := MgB.cells HK17.out
    go_wp2_with fail
    refine HDN.out.mono ?_
    rintro e w18 ⟨rfl, rfl⟩
    go_wp2_with fail
    refine HRC.out.mono ?_
    rintro e w19 ⟨rfl, b19⟩
    have N19 := HN17.out.below b19
    have K19 := HK17.out.below b19
    have O19 := HO17.out.below b19
    have S19 := HS17.out.below b19
    have B19 := b17.trans (b19.mono b17.size)
    clear c0 c1 c2 c3 c4 c5 c6 c7 c8 c9 c10 c11 c12 c13 c14 c15 c16
    cases cr with
    | false =>
      have HY2 : Hid (Y = (Mg.zero, 2)) := Lib.hid (by rw [HRK.out, if_neg (by simp)])
      obtain ⟨WW, hst, NW, BW, KW⟩ := storeM (a := none) (n := 0) (c := 0) (sa := none) (k := 0) (sc := 0) N19 Mg.zero
      simp only [mgV, Mg.zero] at hst
      have HNW := Lib.hid NW
      have HBW := Lib.hid (BW w.heap.size w (Nat.le_refl _) B19)
      clear NW BW KW
      have HST := Lib.hid hst
      clear hst
      go_wp2_with (refine wpList_store_run HST.out rfl rfl rfl rfl ?_)
      exact bodyPost_ret (mread_results _ _ w.heap.size (.slice none 0 0) (.slice none 0 0) Mg.zero 2 rfl rfl HNW.out) rfl ⟨.slice none 0 0, .slice none 0 0, by rw [HY2.out], by rw [HY2.out]; exact RowG.nil _ _, by rw [HY2.out]; exact RowG.nil _ _, HBW.out⟩
    | true =>
      have HY2 : Hid (Y = (c, 0)) := Lib.hid (by rw [HRK.out]; simp)
      have hld := run_loadM K19
      obtain ⟨WW, hst, NW, BW, KW⟩ := storeM (a := a) (n := c.es.length) (c := ca) (sa := sa) (k := c.ss.length) (sc := sc) N19 c
      unfold mgV at hld hst
      have HST := Lib.hid hst
      have HLD := Lib.hid hld
      clear hst hld
      have HNW := Lib.hid NW
      have HBW := Lib.hid (BW w.heap.size w (Nat.le_refl _) B19)
      have HOW := Lib.hid (RowG.other O19 KW (Nat.lt_succ_self w.heap.size))
      have HSW := Lib.hid (RowG.other S19 KW (Nat.lt_succ_self w.heap.size))
      clear NW BW KW N19 K19 O19 S19 B19 b19
      go_wp2_with (first | (refine wpList_store_run HST.out rfl rfl rfl rfl ?_) | (refine wpList_load_run HLD.out rfl rfl rfl ?_))
      exact bodyPost_ret (mread_results _ _ w.heap.size (.slice a c.es.length ca) (.slice sa c.ss.length sc) c 0 rfl rfl HNW.out) rfl ⟨_, _, by rw [HY2.out], by rw [HY2.out]; exact HOW.out.less (Nat.le_succ _), by rw [HY2.out]; exact HSW.out.less (Nat.le_succ _), HBW.out⟩
  · rw [hdz] at HDN HRK
    have HY2 : Hid (Y = (Mg.zero, 2)) := Lib.hid (by rw [HRK.out, if_neg (by omega)])
    go_wp2_with fail
    refine HDN.out.mono ?_
    rintro e w18 ⟨rfl, rfl⟩
    obtain ⟨WW, hst, NW, BW, KW⟩ := storeM (a := none) (n := 0) (c := 0) (sa := none) (k := 0) (sc := 0) HN17.out Mg.zero
    simp only [mgV, Mg.zero] at hst
    have HNW := Lib.hid NW
    have HBW := Lib.hid (BW w.heap.size w (Nat.le_refl _) b17)
    clear NW BW KW
    have HST := Lib.hid hst
    clear hst
    go_wp2_with (refine wpList_store_run HST.out rfl rfl rfl rfl ?_)
    exact bodyPost_ret (mread_results _ _ w.heap.size (.slice none 0 0) (.slice none 0 0) Mg.zero 2 rfl rfl HNW.out) rfl ⟨.slice none 0 0, .slice none 0 0, by rw [HY2.out], by rw [HY2.out]; exact RowG.nil _ _, by rw [HY2.out]; exact RowG.nil _ _, HBW.out⟩
end Go.Proofs.Ytddkbninkncbeaa
