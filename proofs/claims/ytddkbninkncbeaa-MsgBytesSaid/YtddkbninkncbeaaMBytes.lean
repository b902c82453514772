/- Bytes of a message: the walk. No conditions beyond those in each statement. -/
import Derived.Test.YtddkbninkncbeaaMBytes0
namespace Go.Proofs.Ytddkbninkncbeaa
open Go.RowKit
set_option linter.unusedVariables false
set_option linter.unusedSimpArgs false
set_option maxRecDepth 100000

set_option maxHeartbeats 8000000 in
theorem mbytes_any (u v : Value) (m : Mg) (w : World) (hm : m.Ok) (hE : EnsR w u m.es) (hS : SmsR w v m.ss) :
    Calls Try.prog 10 #[mgV u v m] w fun e w' => e = .returned (.tuple #[.string (bytesM m).1, .int .i64 (bytesM m).2]) ∧ Below w.heap.size w w' := by
  obtain ⟨a, cap, rfl, hLm⟩ := hE.form
  obtain ⟨sa, scap, rfl, hSm⟩ := hS.form
  have hda := hm.da
  unfold maxLen at hLm hSm hda
  have bA := (Below.refl w.heap.size w).alloc (Nat.le_refl _) (.cells (mgA (.slice a m.es.length cap) (.slice sa m.ss.length scap) m) 29)
  have N1 := MgB.new w (.slice a m.es.length cap) (.slice sa m.ss.length scap) m
  have HE := Lib.hid hE
  have HS := Lib.hid hS
  have HMO := Lib.hid hm
  have HPT := Lib.hid (rightM_parts (m := m))
  have HBY := Lib.hid (show bytesM m = if rightM m = true then (⟨(encM m).toArray⟩, 0) else (⟨#[]⟩, 1) from rfl)
  have HHE := Lib.hid (show headE m = numsE [m.kd, m.fr, m.dt, m.tm, m.ix, m.lg, m.la, m.co, (m.es.length : Int)] from rfl)
  have HEN := Lib.hid (show encM m = (((((headE m ++ m.es.flatMap encE) ++ flagsE [m.ok]) ++ numsE [m.st]) ++ numsE (lnS m.li m.lt m.lb m.ss)) ++ numsE [m.pa]) ++ textsE [m.da] from rfl)
  have HRC := Lib.hid (fun (W : World) (h1 : EnsR W (.slice a m.es.length cap) m.es) (h2 : SmsR W (.slice sa m.ss.length scap) m.ss) => mright_any _ _ m W hm h1 h2)
  clear hE hS hm
  obtain ⟨r, hr⟩ : ∃ r, r = rightM m := ⟨_, rfl⟩
  obtain ⟨E, hE⟩ : ∃ E, E = encM m := ⟨_, rfl⟩
  obtain ⟨H0, hH0⟩ : ∃ H0, H0 = headE m := ⟨_, rfl⟩
  obtain ⟨Y, hY⟩ : ∃ Y, Y = bytesM m := ⟨_, rfl⟩
  rw [← hr] at HPT HBY HRC
  rw [← hE] at HBY HEN
  rw [← hH0] at HEN HHE
  rw [← hY] at HBY ⊢
  clear hr hE hH0 hY
  rw [mgA_eq] at bA
  rw [mgV_eq] at HRC ⊢
  go_enter Try.func10, Try.ntmps10
  go_upto_region 1 with fail
  obtain ⟨w1, hw1⟩ : ∃ w1, w1 = w.alloc (.cells #[.int .i64 m.kd, .int .i64 m.fr, .int .i64 m.dt, .int .i64 m.tm, .int .i64 m.ix, .int .i64 m.lg, .int .i64 m.la, .int .i64 m.co, .slice a m.es.length cap, .bool m.ok, .int .i64 m.st, .int .i64 m.li, .int .i64 m.lt, .int .i64 m.lb, .slice sa m.ss.length scap, .int .i64 m.pa, .string m.da] 29) := ⟨_, rfl⟩
  have hw1' : w1 = w.alloc (.cells (mgA (.slice a m.es.length cap) (.slice sa m.ss.length scap) m) 29) := hw1
  rw [← hw1'] at N1
  rw [← hw1] at bA ⊢
  obtain ⟨⟨c0, c1, c2, c3, c4, c5, c6, c7, c8, c9, c10, c11, c12, c13, c14, c15, c16⟩, _⟩ := MgB.cells N1
  have hbs : w.heap.size < w1.heap.size := N1.lt
  have HN1 := Lib.hid N1
  have HC := Lib.hid (HRC.out w1 (HE.out.below bA) (HS.out.below bA))
  clear hw1 hw1' N1 HRC
  go_wp2_with fail
  refine HC.out.mono ?_
  rintro e w2 ⟨rfl, b2⟩
  have bB := bA.trans (b2.mono bA.size)
  have N2 : MgB w2 w.heap.size _ _ m := (b2.block w.heap.size hbs).trans HN1.out
  clear HC c0 c1 c2 c3 c4 c5 c6 c7 c8 c9 c10 c11 c12 c13 c14 c15 c16
  obtain ⟨⟨c0, c1, c2, c3, c4, c5, c6, c7, c8, c9, c10, c11, c12, c13, c14, c15, c16⟩, _⟩ := MgB.cells N2
  cases r with
  | false =>
    have HY : Y = (⟨#[]⟩, 1) := HBY.out
    have HYH := Lib.hid HY
    clear HY
    go_wp2_with fail
    go_ret2
    exact ⟨by rw [HYH.out]; rfl, bB⟩
  | true =>
    have HP := Lib.hid (HPT.out rfl)
    have hes4 := HP.out.es
    have hss64 := HP.out.ss
    have hda400 := HP.out.da
    have HYH : Hid (Y = (⟨E.toArray⟩, 0)) := Lib.hid HBY.out
    have hbs2 : w.heap.size < w2.heap.size := N2.lt
    have bN := (Below.refl _ w2).alloc (Nat.le_refl _) (.cells #[.int .i64 m.kd, .int .i64 m.fr, .int .i64 m.dt, .int .i64 m.tm, .int .i64 m.ix, .int .i64 m.lg, .int .i64 m.la, .int .i64 m.co, .int .i64 (m.es.length : Int)] 3)
    have HNM := Lib.hid (num_list (.slice none 0 0) [] w2.heap.size 0 9 [m.kd, m.fr, m.dt, m.tm, m.ix, m.lg, m.la, m.co, (m.es.length : Int)] (w2.alloc (.cells #[.int .i64 m.kd, .int .i64 m.fr, .int .i64 m.dt, .int .i64 m.tm, .int .i64 m.ix, .int .i64 m.lg, .int .i64 m.la, .int .i64 m.co, .int .i64 (m.es.length : Int)] 3)) (Src.nil _) (by simp) (by simp)
      (fun j hj => by match j, hj with
      | 0, _ => exact HMO.out.kd
      | 1, _ => exact HMO.out.fr
      | 2, _ => exact HMO.out.dt
      | 3, _ => exact HMO.out.tm
      | 4, _ => exact HMO.out.ix
      | 5, _ => exact HMO.out.lg
      | 6, _ => exact HMO.out.la
      | 7, _ => exact HMO.out.co
      | 8, _ => exact (show -9223372036854775808 ≤ (m.es.length : Int) ∧ (m.es.length : Int) ≤ 9223372036854775807 by omega))
      (fun j hj => cells_new (by match j, hj with
      | 0, _ => rfl
      | 1, _ => rfl
      | 2, _ => rfl
      | 3, _ => rfl
      | 4, _ => rfl
      | 5, _ => rfl
      | 6, _ => rfl
      | 7, _ => rfl
      | 8, _ => rfl)))
    have HN2 := Lib.hid N2
    have HB := Lib.hid bB
    clear N2 bB
    go_wp2_with fail
    refine HNM.out.mono ?_
    rintro e w3 ⟨v3, rfl, B3, b3⟩
    rw [List.nil_append, ← HHE.out] at B3
    have b23 := bN.trans (b3.mono bN.size)
    have bC := HB.out.trans (b23.mono HB.out.size)
    have N3 : MgB w3 w.heap.size _ _ m := (b23.block w.heap.size hbs2).trans HN2.out
    have hbs3 : w.heap.size < w3.heap.size := N3.lt
    have B3' : Bs w3 (w.heap.size + 1) v3 (H0 ++ (m.es.take 0).flatMap encE) := by
      have h := B3.mono (C := w.heap.size + 1) (by simp; omega)
      simpa using h
    have hH0l : H0.length = 54 := by rw [HHE.out, numsE_length]; rfl
    clear c0 c1 c2 c3 c4 c5 c6 c7 c8 c9 c10 c11 c12 c13 c14 c15 c16
    obtain ⟨⟨c0, c1, c2, c3, c4, c5, c6, c7, c8, c9, c10, c11, c12, c13, c14, c15, c16⟩, _⟩ := MgB.cells N3
    have HBC := Lib.hid bC
    have HN3 := Lib.hid N3
    have HOB := Lib.hid (HE.out.below bC)
    have HSB := Lib.hid (HS.out.below bC)
    clear HNM B3 b3 b23 bN bC HN2 HB N3
    go_wp2_with fail
    go_loopw [4, 34] (fun ov i wr => ∃ j : Nat, j ≤ m.es.length ∧ i = .int .i64 j ∧ Bs wr (w.heap.size + 1) ov (H0 ++ (m.es.take j).flatMap encE) ∧ Below w3.heap.size w3 wr) (fun _ i _ => m.es.length - (intOf i).toNat)
    case atStart => exact ⟨0, Nat.zero_le _, rfl, B3', Below.refl _ _⟩
    case round =>
      obtain ⟨j, hj, rfl, HBS, hb⟩ := hrel
      clear B3' c0 c1 c2 c3 c4 c5 c6 c7 c8 c9 c10 c11 c12 c13 c14 c15 c16
      by_cases hlt : j < m.es.length
      · obtain ⟨hok, g, off, rfl, h0, h1, h2⟩ := HOB.out.at hb hlt
        have hzr := HP.out.ess _ (getD_mem (d := Ent.zero) hlt)
        have HSN := Lib.hid (encEs_snoc m.es j hlt)
        have hEL := encEs_len (m.es.take j)
        rw [List.length_take] at hEL
        have t2 : IntKind.i64.wrap ((j : Int) + 1) = (j : Int) + 1 := IntWalk.i64_in _ (by omega)
        have hj0 : (0 : Int) ≤ (j : Int) := by omega
        have hji : (j : Int) < (m.es.length : Int) := by omega
        generalize m.es.getD j Ent.zero = z at *
        obtain ⟨r1, r2, r3⟩ := rightE_parts hzr
        have HEO := Lib.hid (show encE z = numsE [z.ix, z.tm] ++ textsE [z.da] from rfl)
        obtain ⟨M, hM⟩ : ∃ M, M = H0 ++ (m.es.take j).flatMap encE := ⟨_, rfl⟩
        have hMl : M.length ≤ 54 + 65549 * 4 := by rw [hM, List.length_append]; omega
        rw [← hM] at HBS
        have HM := Lib.hid hM
        clear hM hok hzr hEL
        have bD := hb.alloc hb.size (.cells (entA z) 39)
        have bE := (Below.refl _ wr).alloc (Nat.le_refl _) (.cells (entA z) 39)
        have N6 := EnB.new wr z
        have S6 := HBS.below bE
        have hws := hb.size
        go_upto_region 7 with fail
        obtain ⟨w6, hw6⟩ : ∃ w6, w6 = wr.alloc (.cells #[.int .i64 z.ix, .int .i64 z.tm, .string z.da] 39) := ⟨_, rfl⟩
        have hw6' : w6 = wr.alloc (.cells (entA z) 39) := hw6
        obtain ⟨ob, hob⟩ : ∃ ob, ob = wr.heap.size := ⟨_, rfl⟩
        rw [← hw6'] at bD N6 S6
        rw [← hw6]
        rw [← hob] at N6 hws ⊢
        clear hw6 hw6' bE h0 h1 h2 hob HBS
        obtain ⟨o0, o1, o2⟩ := N6.cells
        have hos : ob < w6.heap.size := N6.lt
        -- the numbers
        have bN := (Below.refl _ w6).alloc (Nat.le_refl _) (.cells #[.int .i64 z.ix, .int .i64 z.tm] 3)
        have HNM := Lib.hid (num_list _ M w6.heap.size 0 2 [z.ix, z.tm] (w6.alloc (.cells #[.int .i64 z.ix, .int .i64 z.tm] 3)) (S6.below bN).src (by simp) (by simp only [List.length_cons, List.length_nil]; omega)
          (fun j hj => by match j, hj with
            | 0, _ => exact ⟨by simp; omega, by simp; omega⟩
            | 1, _ => exact ⟨by simp; omega, by simp; omega⟩)
          (fun j hj => cells_new (by match j, hj with
            | 0, _ => rfl
            | 1, _ => rfl)))
        have HN6 := Lib.hid N6
        have HS6 := Lib.hid S6
        clear N6 S6
        go_wp2_with fail
        refine HNM.out.mono ?_
        rintro e w7 ⟨v7, rfl, B7, b7⟩
        have b67 := bN.trans (b7.mono bN.size)
        have bE := bD.trans (b67.mono bD.size)
        have N7 : EnB w7 ob z := (b67.block ob hos).trans HN6.out
        have hos7 : ob < w7.heap.size := N7.lt
        have B7' := B7.mono (C := w.heap.size + 1) (by have := bD.size; simp; omega)
        have hl7 : (M ++ numsE [z.ix, z.tm]).length = M.length + 12 := by rw [List.length_append, numsE_length]; rfl
        clear HNM B7 b7 b67 bN bD HN6 HS6 o0 o1 o2
        obtain ⟨o0, o1, o2⟩ := N7.cells
        go_upto_region 8 with fail
        -- the text
        have bN := (Below.refl _ w7).alloc (Nat.le_refl _) (.cells #[.string z.da] 9)
        have HNM := Lib.hid (text_list _ (M ++ numsE [z.ix, z.tm]) w7.heap.size 0 1 [z.da] (w7.alloc (.cells #[.string z.da] 9)) (B7'.below bN).src (by simp) (by simp only [List.length_cons, List.length_nil]; omega)
          (fun j hj => by match j, hj with
            | 0, _ => simp [maxLen]; omega)
          (fun j hj => cells_new (by match j, hj with
            | 0, _ => rfl)))
        have HE := Lib.hid bE
        clear N7 B7' bE
        go_wp2_with fail
        refine HNM.out.mono ?_
        rintro e w8 ⟨v8, rfl, B8, b8⟩
        have b78 := bN.trans (b8.mono bN.size)
        have bF := HE.out.trans (b78.mono HE.out.size)
        have B8' := B8.mono (C := w.heap.size + 1) (by have := HE.out.size; simp; omega)
        have HR9 : Hid (Bs w8 (w.heap.size + 1) v8 (H0 ++ (m.es.take (j + 1)).flatMap encE)) := Lib.hid (B8'.mk (by rw [HSN.out, HEO.out, ← List.append_assoc, ← HM.out]; simp only [List.append_assoc]))
        clear HNM B8 b8 b78 bN HE B8' o0 o1 o2
        go_wp2_with fail
        go_roundw
        case rel => exact ⟨j + 1, by omega, by go_num, HR9.out, bF⟩
        case measure => simp [intOf]; omega
      · obtain rfl : j = m.es.length := by omega
        rw [List.take_length] at HBS
        have hEL := encEs_len m.es
        obtain ⟨M, hM⟩ : ∃ M, M = H0 ++ m.es.flatMap encE := ⟨_, rfl⟩
        have hMl : M.length ≤ 54 + 65549 * 4 := by rw [hM, List.length_append]; omega
        rw [← hM] at HBS HEN
        have N4 : MgB wr w.heap.size _ _ m := (hb.block w.heap.size hbs3).trans HN3.out
        have hbs4 : w.heap.size < wr.heap.size := N4.lt
        have hlt2 : decide ((m.es.length : Int) < (m.es.length : Int)) = false := by simp
        clear hM hEL hlt
        obtain ⟨⟨c0, c1, c2, c3, c4, c5, c6, c7, c8, c9, c10, c11, c12, c13, c14, c15, c16⟩, _⟩ := MgB.cells N4
        have bL := HBC.out.trans (hb.mono HBC.out.size)
        have HSW := Lib.hid (HSB.out.below hb)
        have NX := N4
        have BL := bL
        have RB := HBS
        have hlw := hbs4
        clear N4 bL HBS
        go_upto_region 10 with fail
        have bN := (Below.refl _ wr).alloc (Nat.le_refl _) (.cells #[.bool m.ok] 4)
        have HNM := Lib.hid (flag_list _ M wr.heap.size 0 1 [m.ok] (wr.alloc (.cells #[.bool m.ok] 4)) (RB.below bN).src (by simp) (by simp only [List.length_cons, List.length_nil]; omega)
          (fun j hj => cells_new (by match j, hj with
            | 0, _ => rfl)))
        have HNX := Lib.hid NX
        have HBL := Lib.hid BL
        clear NX BL RB
        go_wp2_with fail
        refine HNM.out.mono ?_
        rintro e w5 ⟨v5, rfl, RB, bq⟩
        have bqq := bN.trans (bq.mono bN.size)
        have BL := HBL.out.trans (bqq.mono HBL.out.size)
        have NX : MgB w5 w.heap.size _ _ m := (bqq.block w.heap.size hlw).trans HNX.out
        obtain ⟨M5, hM5⟩ : ∃ Q, Q = M ++ flagsE [m.ok] := ⟨_, rfl⟩
        have hl5 : M5.length ≤ 54 + 65549 * 4 + 1 := by rw [hM5, List.length_append, flagsE_length]; simp only [List.length_cons, List.length_nil]; omega
        rw [← hM5] at RB HEN
        have hlw : w.heap.size < w5.heap.size := NX.lt
        clear HNM HNX HBL bN bq bqq hM5 c0 c1 c2 c3 c4 c5 c6 c7 c8 c9 c10 c11 c12 c13 c14 c15 c16
        obtain ⟨⟨c0, c1, c2, c3, c4, c5, c6, c7, c8, c9, c10, c11, c12, c13, c14, c15, c16⟩, _⟩ := MgB.cells NX
        go_upto_region 11 with fail
        have bN := (Below.refl _ w5).alloc (Nat.le_refl _) (.cells #[.int .i64 m.st] 3)
        have HNM := Lib.hid (num_list _ M5 w5.heap.size 0 1 [m.st] (w5.alloc (.cells #[.int .i64 m.st] 3)) (RB.below bN).src (by simp) (by simp only [List.length_cons, List.length_nil]; omega)
          (fun j hj => by match j, hj with
            | 0, _ => exact HMO.out.st)
          (fun j hj => cells_new (by match j, hj with
            | 0, _ => rfl)))
        have HNX := Lib.hid NX
        have HBL := Lib.hid BL
        clear NX BL RB
        go_wp2_with fail
        refine HNM.out.mono ?_
        rintro e w6 ⟨v6, rfl, RB, bq⟩
        have bqq := bN.trans (bq.mono bN.size)
        have BL := HBL.out.trans (bqq.mono HBL.out.size)
        have NX : MgB w6 w.heap.size _ _ m := (bqq.block w.heap.size hlw).trans HNX.out
        obtain ⟨M6, hM6⟩ : ∃ Q, Q = M5 ++ numsE [m.st] := ⟨_, rfl⟩
        have hl6 : M6.length ≤ 54 + 65549 * 4 + 7 := by rw [hM6, List.length_append, numsE_length]; simp only [List.length_cons, List.length_nil]; omega
        rw [← hM6] at RB HEN
        have hlw : w.heap.size < w6.heap.size := NX.lt
        clear HNM HNX HBL bN bq bqq hM6 c0 c1 c2 c3 c4 c5 c6 c7 c8 c9 c10 c11 c12 c13 c14 c15 c16
        obtain ⟨⟨c0, c1, c2, c3, c4, c5, c6, c7, c8, c9, c10, c11, c12, c13, c14, c15, c16⟩, _⟩ := MgB.cells NX
        go_upto_region 12 with fail
        have HLN := Lib.hid (fun (W : World) (h : SmsR W (.slice sa m.ss.length scap) m.ss) => listnums_any (.slice sa m.ss.length scap) m.li m.lt m.lb m.ss W h (by omega))
        have hSb : SmsR w6 (.slice sa m.ss.length scap) m.ss := HS.out.below BL
        have HSb := Lib.hid hSb
        have HLC := Lib.hid (HLN.out w6 hSb)
        simp only [lsV] at HLC
        clear HLN hSb
        have HNX := Lib.hid NX
        have HBL := Lib.hid BL
        have HRB := Lib.hid RB
        clear NX BL RB
        go_wp2_with fail
        refine HLC.out.mono ?_
        rintro e wl ⟨vl, rfl, IL, bl⟩
        obtain ⟨ig, ic, rfl, hig1, hig2, hic⟩ := IL.cells (by rw [lnS_len]; omega)
        have hll := lnS_len m.li m.lt m.lb m.ss
        have HNM := Lib.hid (num_list _ M6 ig 0 ic (lnS m.li m.lt m.lb m.ss) wl (HRB.out.below bl).src hig2 (by rw [hll]; omega)
          (fun j hj => by
            have hz : ∀ z ∈ lnS m.li m.lt m.lb m.ss, -9223372036854775808 ≤ z ∧ z ≤ 9223372036854775807 := fun z hz => by
              unfold lnS at hz
              rcases List.mem_append.1 hz with h | h
              · simp only [List.mem_cons, List.not_mem_nil, or_false] at h
                rcases h with rfl | rfl | rfl | rfl
                · exact HMO.out.li
                · exact HMO.out.lt
                · exact HMO.out.lb
                · omega
              · have := HSb.out.oks z h; omega
            exact hz _ (getD_mem hj))
          hic)
        have bN := bl
        have NX : MgB wl w.heap.size _ _ m := HNX.out.below bl
        have BL := HBL.out.trans (bl.mono HBL.out.size)
        have hlw : w.heap.size < wl.heap.size := NX.lt
        clear HNX HBL HLC IL hic bl c0 c1 c2 c3 c4 c5 c6 c7 c8 c9 c10 c11 c12 c13 c14 c15 c16
        obtain ⟨⟨c0, c1, c2, c3, c4, c5, c6, c7, c8, c9, c10, c11, c12, c13, c14, c15, c16⟩, _⟩ := MgB.cells NX
        clear bN
        have bN := Below.refl wl.heap.size wl
        rw [hll] at HNM
        have RB := HRB.out
        clear HRB
        have HNX := Lib.hid NX
        have HBL := Lib.hid BL
        clear NX BL RB
        try rw [hll]
        go_wp2_with fail
        refine HNM.out.mono ?_
        rintro e w7 ⟨v7, rfl, RB, bq⟩
        have BL := HBL.out.trans (bq.mono HBL.out.size)
        have NX : MgB w7 w.heap.size _ _ m := HNX.out.below bq
        obtain ⟨M7, hM7⟩ : ∃ Q, Q = M6 ++ numsE (lnS m.li m.lt m.lb m.ss) := ⟨_, rfl⟩
        have hl7 : M7.length ≤ 54 + 65549 * 4 + 7 + 408 := by rw [hM7, List.length_append, numsE_length, hll]; omega
        rw [← hM7] at RB HEN
        have hlw : w.heap.size < w7.heap.size := NX.lt
        clear HNM HNX HBL bN bq hM7 c0 c1 c2 c3 c4 c5 c6 c7 c8 c9 c10 c11 c12 c13 c14 c15 c16
        obtain ⟨⟨c0, c1, c2, c3, c4, c5, c6, c7, c8, c9, c10, c11, c12, c13, c14, c15, c16⟩, _⟩ := MgB.cells NX
        go_upto_region 13 with fail
        have bN := (Below.refl _ w7).alloc (Nat.le_refl _) (.cells #[.int .i64 m.pa] 3)
        have HNM := Lib.hid (num_list _ M7 w7.heap.size 0 1 [m.pa] (w7.alloc (.cells #[.int .i64 m.pa] 3)) (RB.below bN).src (by simp) (by simp only [List.length_cons, List.length_nil]; omega)
          (fun j hj => by match j, hj with
            | 0, _ => exact HMO.out.pa)
          (fun j hj => cells_new (by match j, hj with
            | 0, _ => rfl)))
        have HNX := Lib.hid NX
        have HBL := Lib.hid BL
        clear NX BL RB
        go_wp2_with fail
        refine HNM.out.mono ?_
        rintro e w8 ⟨v8, rfl, RB, bq⟩
        have bqq := bN.trans (bq.mono bN.size)
        have BL := HBL.out.trans (bqq.mono HBL.out.size)
        have NX : MgB w8 w.heap.size _ _ m := (bqq.block w.heap.size hlw).trans HNX.out
        obtain ⟨M8, hM8⟩ : ∃ Q, Q = M7 ++ numsE [m.pa] := ⟨_, rfl⟩
        have hl8 : M8.length ≤ 54 + 65549 * 4 + 7 + 408 + 6 := by rw [hM8, List.length_append, numsE_length]; simp only [List.length_cons, List.length_nil]; omega
        rw [← hM8] at RB HEN
        have hlw : w.heap.size < w8.heap.size := NX.lt
        clear HNM HNX HBL bN bq bqq hM8 c0 c1 c2 c3 c4 c5 c6 c7 c8 c9 c10 c11 c12 c13 c14 c15 c16
        obtain ⟨⟨c0, c1, c2, c3, c4, c5, c6, c7, c8, c9, c10, c11, c12, c13, c14, c15, c16⟩, _⟩ := MgB.cells NX
        go_upto_region 14 with fail
        have bN := (Below.refl _ w8).alloc (Nat.le_refl _) (.cells #[.string m.da] 9)
        have HNM := Lib.hid (text_list _ M8 w8.heap.size 0 1 [m.da] (w8.alloc (.cells #[.string m.da] 9)) (RB.below bN).src (by simp) (by simp only [List.length_cons, List.length_nil]; omega)
          (fun j hj => by match j, hj with
            | 0, _ => simp [maxLen]; omega)
          (fun j hj => cells_new (by match j, hj with
            | 0, _ => rfl)))
        have HBL := Lib.hid BL
        clear NX BL RB
        go_wp2_with fail
        refine HNM.out.mono ?_
        rintro e w9 ⟨v9, rfl, RB, bq⟩
        have BK := HBL.out.trans ((bN.trans (bq.mono bN.size)).mono HBL.out.size)
        rw [← HEN.out] at RB
        have hE0 : 0 < E.length := by rw [HEN.out, List.length_append]; have : 2 ≤ (textsE [m.da]).length := by (simp [textsE, textE, be_length])
                                      omega
        have hstr := run_str RB.src
        obtain ⟨g6, cp6, rfl, _⟩ := RB.cut hE0
        clear HNM bN bq RB HEN HBL c0 c1 c2 c3 c4 c5 c6 c7 c8 c9 c10 c11 c12 c13 c14 c15 c16
        go_wp2_with fail
        go_ret2
        exact ⟨by rw [HYH.out]; rfl, BK⟩
end Go.Proofs.Ytddkbninkncbeaa
