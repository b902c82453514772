/- Whether a message is right: msg's and the law's; Few. No conditions beyond those in each statement. -/
import Derived.Test.YtddkbninkncbeaaMBase
namespace Go.Proofs.Ytddkbninkncbeaa
open Go.RowKit
set_option linter.unusedVariables false
set_option linter.unusedSimpArgs false
set_option maxRecDepth 100000

set_option maxHeartbeats 1000000 in
theorem encodable_any (b off cap : Nat) (L : List Int) (w : World) (hl : L.length ≤ maxLen) (hc : ∀ j, j < L.length → w.cell? ⟨b, off + j, none⟩ = some (.int .i64 (L.getD j 0))) :
    Calls Try.prog 19 #[.slice (some ⟨b, off, none⟩) L.length cap] w fun e w' => e = .returned (.bool (L.all rightN)) ∧ w' = w := by
  unfold maxLen at hl
  have HC := Lib.hid hc
  clear hc
  go_enter Try.func19, Try.ntmps19
  go_wp2_with fail
  go_loopw [7] (fun i wr => ∃ k : Nat, k ≤ L.length ∧ i = .int .i64 k ∧ Hid ((L.take k).all rightN = true) ∧ Hid (wr = w)) (fun i _ => L.length - (intOf i).toNat)
  case atStart => exact ⟨0, Nat.zero_le _, rfl, Lib.hid rfl, Lib.hid rfl⟩
  case round =>
    obtain ⟨k, hk, rfl, HT, HWW⟩ := hrel
    obtain rfl := HWW.out
    by_cases hlt : k < L.length
    · have hcell := HC.out k hlt
      have hk0 : (0 : Int) ≤ (k : Int) := by omega
      have hki : (k : Int) < (L.length : Int) := by omega
      have t2 : IntKind.i64.wrap ((k : Int) + 1) = (k : Int) + 1 := IntWalk.i64_in _ (by omega)
      have HNX := Lib.hid (fun h => all_take (d := (0 : Int)) (f := rightN) hlt HT.out h)
      have HNO := Lib.hid (fun h => all_not (d := (0 : Int)) (f := rightN) hlt h)
      generalize L.getD k 0 = z at *
      cases d1 : decide (z < 0) with
      | true =>
        have HX := Lib.hid (HNO.out (by simp only [rightN, lowB, highB, d1, Bool.not_true, Bool.false_and]))
        go_wp2_with fail
        go_ret
        exact ⟨by rw [HX.out]; rfl, rfl⟩
      | false =>
      cases d2 : decide ((281474976710655 : Int) < z) with
      | true =>
        have HX := Lib.hid (HNO.out (by simp only [rightN, lowB, highB, d1, d2, Bool.not_true, Bool.not_false, Bool.true_and]))
        go_wp2_with fail
        go_ret
        exact ⟨by rw [HX.out]; rfl, rfl⟩
      | false =>
        have HX := Lib.hid (HNX.out (by simp only [rightN, lowB, highB, d1, d2, Bool.not_true, Bool.not_false, Bool.true_and]))
        go_wp2_with fail
        go_roundw
        case rel => exact ⟨k + 1, by omega, by go_num, HX, (by first | exact Lib.hid rfl | exact Lib.hid trivial)⟩
        case measure => simp [intOf]; omega
    · obtain rfl : k = L.length := by omega
      have HX : Hid (L.all rightN = true) := Lib.hid (by have := HT.out; rwa [List.take_length] at this)
      have hlt2 : decide ((L.length : Int) < (L.length : Int)) = false := by simp
      go_wp2_with fail
      go_ret
      exact ⟨by rw [HX.out]; rfl, rfl⟩
theorem okfn_any (z : Int) (w : World) : Calls Try.prog 20 #[.int .i64 z] w fun e w' => e = .returned (.bool (rightN z)) ∧ w' = w := by
  cases d1 : decide (0 ≤ z) with
  | false =>
    have HX := Lib.hid (show rightN z = false by
      have : decide (z < 0) = true := by simp at d1 ⊢; omega
      simp only [rightN, lowB, highB, this, Bool.not_true, Bool.false_and])
    go_enter Try.func20, Try.ntmps20
    go_wp2_with fail
    go_ret
    exact ⟨by rw [HX.out]; rfl, rfl⟩
  | true =>
    have HX := Lib.hid (show rightN z = decide (z ≤ 281474976710655) by
      have : decide (z < 0) = false := by simp at d1 ⊢; omega
      simp only [rightN, lowB, highB, this, Bool.not_false, Bool.true_and]
      by_cases h : z ≤ 281474976710655
      · simp [h]
      · simp [h]; omega)
    go_enter Try.func20, Try.ntmps20
    go_wp2_with fail
    go_ret
    exact ⟨by rw [HX.out]; rfl, rfl⟩
def rightTL (m : Mg) : Bool := decide (1 ≤ m.kd) && decide (m.kd ≤ 8) && decide ((m.es.length : Int) ≤ 4) && decide (0 ≤ m.st) && decide (m.st ≤ 3) && decide ((m.ss.length : Int) ≤ 64) && decide ((m.da.size : Int) ≤ 400)
theorem rightTL_eq (m : Mg) : rightTL m = rightT m := by
  unfold rightTL rightT
  cases decide (1 ≤ m.kd) <;> cases decide (m.kd ≤ 8) <;> cases decide ((m.es.length : Int) ≤ 4) <;> cases decide (0 ≤ m.st) <;> cases decide (m.st ≤ 3) <;> rfl
def fewE (o : Ent) : Bool := decide ((o.da.size : Int) ≤ 600)
def fewM (m : Mg) : Bool := m.es.all fewE && (decide ((m.es.length : Int) ≤ 8) && decide ((m.ss.length : Int) ≤ 80) && decide ((m.da.size : Int) ≤ 600))

set_option maxHeartbeats 8000000 in
theorem few_any (u v : Value) (m : Mg) (w : World) (hm : m.Ok) (hE : EnsR w u m.es) (hS : SmsR w v m.ss) :
    Calls Try.prog 9 #[mgV u v m] w fun e w' => e = .returned (.bool (fewM m)) ∧ Below w.heap.size w w' := by
  obtain ⟨a, cap, rfl, hLm⟩ := hE.form
  obtain ⟨sa, scap, rfl, hSm⟩ := hS.form
  have hda := hm.da
  unfold maxLen at hLm hSm hda
  have bA := (Below.refl w.heap.size w).alloc (Nat.le_refl _) (.cells (mgA (.slice a m.es.length cap) (.slice sa m.ss.length scap) m) 29)
  have N1 := MgB.new w (.slice a m.es.length cap) (.slice sa m.ss.length scap) m
  have HE := Lib.hid hE
  clear hE hS
  rw [mgA_eq] at bA
  rw [mgV_eq]
  go_enter Try.func9, Try.ntmps9
  go_upto_region 1 with fail
  obtain ⟨w1, hw1⟩ : ∃ w1, w1 = w.alloc (.cells #[.int .i64 m.kd, .int .i64 m.fr, .int .i64 m.dt, .int .i64 m.tm, .int .i64 m.ix, .int .i64 m.lg, .int .i64 m.la, .int .i64 m.co, .slice a m.es.length cap, .bool m.ok, .int .i64 m.st, .int .i64 m.li, .int .i64 m.lt, .int .i64 m.lb, .slice sa m.ss.length scap, .int .i64 m.pa, .string m.da] 29) := ⟨_, rfl⟩
  have hw1' : w1 = w.alloc (.cells (mgA (.slice a m.es.length cap) (.slice sa m.ss.length scap) m) 29) := hw1
  rw [← hw1'] at N1
  rw [← hw1] at bA ⊢
  obtain ⟨⟨c0, c1, c2, c3, c4, c5, c6, c7, c8, c9, c10, c11, c12, c13, c14, c15, c16⟩, _⟩ := MgB.cells N1
  have hbs : w.heap.size < w1.heap.size := N1.lt
  have HN1 := Lib.hid N1
  have HEB := Lib.hid (HE.out.below bA)
  clear hw1 hw1' N1
  go_wp2_with fail
  go_loopw [8] (fun i wr => ∃ j : Nat, j ≤ m.es.length ∧ i = .int .i64 j ∧ Hid ((m.es.take j).all fewE = true) ∧ Below w1.heap.size w1 wr) (fun i _ => m.es.length - (intOf i).toNat)
  case atStart => exact ⟨0, Nat.zero_le _, rfl, Lib.hid rfl, Below.refl _ _⟩
  case round =>
    obtain ⟨j, hj, rfl, HT, hb⟩ := hrel
    clear c0 c1 c2 c3 c4 c5 c6 c7 c8 c9 c10 c11 c12 c13 c14 c15 c16
    by_cases hlt : j < m.es.length
    · obtain ⟨hok, g, off, rfl, h0, h1, h2⟩ := HEB.out.at hb hlt
      have hj0 : (0 : Int) ≤ (j : Int) := by omega
      have hji : (j : Int) < (m.es.length : Int) := by omega
      have t2 : IntKind.i64.wrap ((j : Int) + 1) = (j : Int) + 1 := IntWalk.i64_in _ (by omega)
      have HNX := Lib.hid (fun h => all_take (d := Ent.zero) (f := fewE) hlt HT.out h)
      have HNO := Lib.hid (fun h => all_not (d := Ent.zero) (f := fewE) hlt h)
      have hda2 := hok.da
      unfold maxLen at hda2
      generalize m.es.getD j Ent.zero = z at *
      have bD := hb.alloc hb.size (.cells #[.int .i64 z.ix, .int .i64 z.tm, .string z.da] 39)
      cases d1 : decide ((600 : Int) < (z.da.size : Int)) with
      | true =>
        have HX := Lib.hid (HNO.out (by simp only [fewE]; simp at d1 ⊢; omega))
        go_wp2_with fail
        go_ret
        exact ⟨by unfold fewM; rw [HX.out]; rfl, bA.trans (bD.mono bA.size)⟩
      | false =>
        have HX := Lib.hid (HNX.out (by simp only [fewE]; simp at d1 ⊢; omega))
        go_wp2_with fail
        go_roundw
        case rel => exact ⟨j + 1, by omega, by go_num, HX, bD⟩
        case measure => simp [intOf]; omega
    · obtain rfl : j = m.es.length := by omega
      have HA : Hid (m.es.all fewE = true) := Lib.hid (by have := HT.out; rwa [List.take_length] at this)
      have HW : Hid (fewM m = (decide ((m.es.length : Int) ≤ 8) && decide ((m.ss.length : Int) ≤ 80) && decide ((m.da.size : Int) ≤ 600))) := Lib.hid (by unfold fewM; rw [HA.out]; rfl)
      have hlt2 : decide ((m.es.length : Int) < (m.es.length : Int)) = false := by simp
      have N4 := (hb.block w.heap.size hbs).trans HN1.out
      obtain ⟨⟨c0, c1, c2, c3, c4, c5, c6, c7, c8, c9, c10, c11, c12, c13, c14, c15, c16⟩, _⟩ := MgB.cells N4
      have bF := bA.trans (hb.mono bA.size)
      cases t1 : decide ((m.es.length : Int) ≤ 8) with
      | false =>
        have HX : Hid (fewM m = false) := Lib.hid (by rw [HW.out]; simp only [t1, Bool.true_and, Bool.false_and])
        go_wp2_with fail
        go_ret
        exact ⟨by rw [HX.out]; rfl, bF⟩
      | true =>
      cases t2 : decide ((m.ss.length : Int) ≤ 80) with
      | false =>
        have HX : Hid (fewM m = false) := Lib.hid (by rw [HW.out]; simp only [t1, t2, Bool.true_and, Bool.false_and])
        go_wp2_with fail
        go_ret
        exact ⟨by rw [HX.out]; rfl, bF⟩
      | true =>
        have HX : Hid (fewM m = decide ((m.da.size : Int) ≤ 600)) := Lib.hid (by rw [HW.out]; simp only [t1, t2, Bool.true_and])
        go_wp2_with fail
        go_ret
        exact ⟨by rw [HX.out]; rfl, bF⟩
set_option maxHeartbeats 8000000 in
theorem mright_any (u v : Value) (m : Mg) (w : World) (hm : m.Ok) (hE : EnsR w u m.es) (hS : SmsR w v m.ss) :
    Calls Try.prog 11 #[mgV u v m] w fun e w' => e = .returned (.bool (rightM m)) ∧ Below w.heap.size w w' := by
  obtain ⟨a, cap, rfl, hLm⟩ := hE.form
  obtain ⟨sa, scap, rfl, hSm⟩ := hS.form
  have hda := hm.da
  unfold maxLen at hLm hSm hda
  have bA := (Below.refl w.heap.size w).alloc (Nat.le_refl _) (.cells (mgA (.slice a m.es.length cap) (.slice sa m.ss.length scap) m) 29)
  have N1 := MgB.new w (.slice a m.es.length cap) (.slice sa m.ss.length scap) m
  have HE := Lib.hid hE
  clear hE hS
  rw [mgA_eq] at bA
  rw [mgV_eq]
  go_enter Try.func11, Try.ntmps11
  go_upto_region 1 with fail
  obtain ⟨w1, hw1⟩ : ∃ w1, w1 = w.alloc (.cells #[.int .i64 m.kd, .int .i64 m.fr, .int .i64 m.dt, .int .i64 m.tm, .int .i64 m.ix, .int .i64 m.lg, .int .i64 m.la, .int .i64 m.co, .slice a m.es.length cap, .bool m.ok, .int .i64 m.st, .int .i64 m.li, .int .i64 m.lt, .int .i64 m.lb, .slice sa m.ss.length scap, .int .i64 m.pa, .string m.da] 29) := ⟨_, rfl⟩
  have hw1' : w1 = w.alloc (.cells (mgA (.slice a m.es.length cap) (.slice sa m.ss.length scap) m) 29) := hw1
  rw [← hw1'] at N1
  rw [← hw1] at bA ⊢
  obtain ⟨⟨c0, c1, c2, c3, c4, c5, c6, c7, c8, c9, c10, c11, c12, c13, c14, c15, c16⟩, _⟩ := MgB.cells N1
  have hbs : w.heap.size < w1.heap.size := N1.lt
  have HN1 := Lib.hid N1
  have HEB := Lib.hid (HE.out.below bA)
  clear hw1 hw1' N1
  have bN := (Below.refl _ w1).alloc (Nat.le_refl _) (.cells #[.int .i64 m.li, .int .i64 m.lt, .int .i64 m.lb, .slice sa m.ss.length scap] 27)
  have L2 := LsB.new w1 (.slice sa m.ss.length scap) m.li m.lt m.lb
  have N2 := HN1.out.below bN
  have bB := bA.trans (bN.mono bA.size)
  have HEB2 := Lib.hid (HEB.out.below bN)
  have HC0 := Lib.hid (fun (W : World) => encodable_any W.heap.size 0 11 (numsM m) (W.alloc (.cells #[.int .i64 m.fr, .int .i64 m.dt, .int .i64 m.tm, .int .i64 m.ix, .int .i64 m.lg, .int .i64 m.la, .int .i64 m.co, .int .i64 m.pa, .int .i64 m.li, .int .i64 m.lt, .int .i64 m.lb] 3)) (by show 11 ≤ maxLen; decide)
    (fun j hj => cells_new (by match j, hj with
      | 0, _ => rfl
      | 1, _ => rfl
      | 2, _ => rfl
      | 3, _ => rfl
      | 4, _ => rfl
      | 5, _ => rfl
      | 6, _ => rfl
      | 7, _ => rfl
      | 8, _ => rfl
      | 9, _ => rfl
      | 10, _ => rfl)))
  obtain ⟨w2, hw2⟩ : ∃ w2, w2 = w1.alloc (.cells #[.int .i64 m.li, .int .i64 m.lt, .int .i64 m.lb, .slice sa m.ss.length scap] 27) := ⟨_, rfl⟩
  go_upto_region 2 with fail
  clear c0 c1 c2 c3 c4 c5 c6 c7 c8 c9 c10 c11 c12 c13 c14 c15 c16
  have hw2' : w2 = w1.alloc (.cells (lsA (.slice sa m.ss.length scap) m.li m.lt m.lb) 27) := hw2
  rw [← hw2'] at L2
  rw [← hw2] at bN N2 bB HEB2 ⊢
  obtain ⟨lb, hlb⟩ : ∃ lb, lb = w1.heap.size := ⟨_, rfl⟩
  rw [← hlb] at L2 ⊢
  have hls : lb < w2.heap.size := L2.lt
  have hbs2 : w.heap.size < w2.heap.size := N2.lt
  obtain ⟨⟨c0, c1, c2, c3, c4, c5, c6, c7, c8, c9, c10, c11, c12, c13, c14, c15, c16⟩, _⟩ := MgB.cells N2
  obtain ⟨⟨l0, l1, l2, l3⟩, _⟩ := LsB.cells L2
  have HN2 := Lib.hid N2
  have HL2 := Lib.hid L2
  have bC := bB.alloc bB.size (.cells #[.int .i64 m.fr, .int .i64 m.dt, .int .i64 m.tm, .int .i64 m.ix, .int .i64 m.lg, .int .i64 m.la, .int .i64 m.co, .int .i64 m.pa, .int .i64 m.li, .int .i64 m.lt, .int .i64 m.lb] 3)
  have bD := (Below.refl _ w2).alloc (Nat.le_refl _) (.cells #[.int .i64 m.fr, .int .i64 m.dt, .int .i64 m.tm, .int .i64 m.ix, .int .i64 m.lg, .int .i64 m.la, .int .i64 m.co, .int .i64 m.pa, .int .i64 m.li, .int .i64 m.lt, .int .i64 m.lb] 3)
  have HRM := Lib.hid (show rightM m = ((numsM m).all rightN && m.es.all rightE && rightT m) from rfl)
  have HC := Lib.hid (HC0.out w2)
  rw [show (numsM m).length = 11 from rfl] at HC
  clear hw2 hw2' hlb HN1 HEB L2 N2 HC0 bN
  generalize (numsM m).all rightN = R1 at HC HRM
  go_wp2_with fail
  refine HC.out.mono ?_
  rintro e w3 ⟨rfl, rfl⟩
  obtain ⟨w3, hw3⟩ : ∃ w3, w3 = w2.alloc (.cells #[.int .i64 m.fr, .int .i64 m.dt, .int .i64 m.tm, .int .i64 m.ix, .int .i64 m.lg, .int .i64 m.la, .int .i64 m.co, .int .i64 m.pa, .int .i64 m.li, .int .i64 m.lt, .int .i64 m.lb] 3) := ⟨_, rfl⟩
  rw [← hw3] at bC bD ⊢
  clear HC hw3
  cases R1 with
  | false =>
    go_wp2_with fail
    go_ret
    exact ⟨by rw [HRM.out]; rfl, bC⟩
  | true =>
  clear c0 c1 c2 c3 c4 c5 c6 c7 c8 c9 c10 c11 c12 c13 c14 c15 c16
  have N3 := HN2.out.below bD
  have L3 := HL2.out.below bD
  have HEB3 := Lib.hid (HEB2.out.below bD)
  have hbs3 : w.heap.size < w3.heap.size := N3.lt
  have hls3 : lb < w3.heap.size := L3.lt
  obtain ⟨⟨c0, c1, c2, c3, c4, c5, c6, c7, c8, c9, c10, c11, c12, c13, c14, c15, c16⟩, _⟩ := MgB.cells N3
  have HN3 := Lib.hid N3
  have HL3 := Lib.hid L3
  clear HN2 HL2 HEB2 N3 L3 bD l0 l1 l2 l3
  go_wp2_with fail
  go_loopw [36] (fun i wr => ∃ j : Nat, j ≤ m.es.length ∧ i = .int .i64 j ∧ Hid ((m.es.take j).all rightE = true) ∧ Below w3.heap.size w3 wr) (fun i _ => m.es.length - (intOf i).toNat)
  case atStart => exact ⟨0, Nat.zero_le _, rfl, Lib.hid rfl, Below.refl _ _⟩
  case round =>
    obtain ⟨j, hj, rfl, HT, hb⟩ := hrel
    clear c0 c1 c2 c3 c4 c5 c6 c7 c8 c9 c10 c11 c12 c13 c14 c15 c16
    by_cases hlt : j < m.es.length
    · obtain ⟨hok, g, off, rfl, h0, h1, h2⟩ := HEB3.out.at hb hlt
      have hj0 : (0 : Int) ≤ (j : Int) := by omega
      have hji : (j : Int) < (m.es.length : Int) := by omega
      have t2 : IntKind.i64.wrap ((j : Int) + 1) = (j : Int) + 1 := IntWalk.i64_in _ (by omega)
      have HNX := Lib.hid (fun h => all_take (d := Ent.zero) (f := rightE) hlt HT.out h)
      have HNO := Lib.hid (fun h => all_not (d := Ent.zero) (f := rightE) hlt h)
      have hda2 := hok.da
      unfold maxLen at hda2
      generalize m.es.getD j Ent.zero = z at *
      have bG := hb.alloc hb.size (.cells #[.int .i64 z.ix, .int .i64 z.tm, .string z.da] 39)
      have E5 := EnB.new wr z
      unfold EnB entA at E5
      have HC0 := Lib.hid (fun (W : World) => encodable_any W.heap.size 0 2 [z.ix, z.tm] (W.alloc (.cells #[.int .i64 z.ix, .int .i64 z.tm] 3)) (by show 2 ≤ maxLen; decide)
        (fun j hj => cells_new (by match j, hj with
        | 0, _ => rfl
        | 1, _ => rfl)))
      go_upto_region 7 with fail
      obtain ⟨w5, hw5⟩ : ∃ w5, w5 = wr.alloc (.cells #[.int .i64 z.ix, .int .i64 z.tm, .string z.da] 39) := ⟨_, rfl⟩
      obtain ⟨eb, heb⟩ : ∃ eb, eb = wr.heap.size := ⟨_, rfl⟩
      rw [← hw5] at bG E5 ⊢
      rw [← heb] at E5 ⊢
      have E5' : EnB w5 eb z := E5
      obtain ⟨e0, e1, e2⟩ := E5'.cells
      have HE5 := Lib.hid E5'
      have hes : eb < w5.heap.size := E5'.lt
      have bH := bG.alloc bG.size (.cells #[.int .i64 z.ix, .int .i64 z.tm] 3)
      have bJ := (Below.refl _ w5).alloc (Nat.le_refl _) (.cells #[.int .i64 z.ix, .int .i64 z.tm] 3)
      have HC := Lib.hid (HC0.out w5)
      rw [show [z.ix, z.tm].length = 2 from rfl] at HC
      have HRE := Lib.hid (show rightE z = ([z.ix, z.tm].all rightN && decide ((z.da.size : Int) ≤ 488)) by simp only [rightE, List.all_cons, List.all_nil, Bool.and_true])
      clear hw5 heb E5 E5' HC0 h0 h1 h2 HE5
      generalize [z.ix, z.tm].all rightN = R2 at HC HRE
      have HEX := Lib.hid (EnB.new wr z)
      go_wp2_with fail
      refine HC.out.mono ?_
      rintro e w6 ⟨rfl, rfl⟩
      have e2' := (bJ.cell (p := ⟨eb, 2, none⟩) hes).trans e2
      obtain ⟨w6, hw6⟩ : ∃ w6, w6 = w5.alloc (.cells #[.int .i64 z.ix, .int .i64 z.tm] 3) := ⟨_, rfl⟩
      rw [← hw6] at bH e2' ⊢
      clear HC hw6 e0 e1 e2 bJ HEX
      cases R2 with
      | false =>
        have HX := Lib.hid (HNO.out (by rw [HRE.out]; rfl))
        go_wp2_with fail
        go_ret
        exact ⟨by rw [HRM.out, HX.out]; rfl, bC.trans (bH.mono bC.size)⟩
      | true =>
      cases d1 : decide ((488 : Int) < (z.da.size : Int)) with
      | true =>
        have HX := Lib.hid (HNO.out (by rw [HRE.out]; simp at d1 ⊢; omega))
        go_wp2_with fail
        go_ret
        exact ⟨by rw [HRM.out, HX.out]; rfl, bC.trans (bH.mono bC.size)⟩
      | false =>
        have HX := Lib.hid (HNX.out (by rw [HRE.out]; simp at d1 ⊢; omega))
        go_wp2_with fail
        go_roundw
        case rel => exact ⟨j + 1, by omega, by go_num, HX, bH⟩
        case measure => simp [intOf]; omega
    · obtain rfl : j = m.es.length := by omega
      have HA : Hid (m.es.all rightE = true) := Lib.hid (by have := HT.out; rwa [List.take_length] at this)
      have HW : Hid (rightM m = rightT m) := Lib.hid (by rw [HRM.out, HA.out]; simp only [Bool.true_and])
      have hlt2 : decide ((m.es.length : Int) < (m.es.length : Int)) = false := by simp
      have N4 := (hb.block w.heap.size hbs3).trans HN3.out
      have L4 : LsB wr lb _ _ _ _ := (hb.block lb hls3).trans HL3.out
      obtain ⟨⟨c0, c1, c2, c3, c4, c5, c6, c7, c8, c9, c10, c11, c12, c13, c14, c15, c16⟩, _⟩ := MgB.cells N4
      obtain ⟨⟨l0, l1, l2, l3⟩, _⟩ := LsB.cells L4
      have bF := bC.trans (hb.mono bC.size)
      cases t1 : decide (1 ≤ m.kd) with
      | false =>
        have HX := Lib.hid (show rightT m = false by simp only [rightT, t1, Bool.true_and, Bool.false_and])
        go_wp2_with fail
        go_ret
        exact ⟨by rw [HW.out, HX.out]; rfl, bF⟩
      | true =>
      cases t2 : decide (m.kd ≤ 8) with
      | false =>
        have HX := Lib.hid (show rightT m = false by simp only [rightT, t1, t2, Bool.true_and, Bool.false_and])
        go_wp2_with fail
        go_ret
        exact ⟨by rw [HW.out, HX.out]; rfl, bF⟩
      | true =>
      cases t3 : decide (0 ≤ m.st) with
      | false =>
        have HX := Lib.hid (show rightT m = false by simp only [rightT, t1, t2, t3, Bool.true_and, Bool.false_and])
        go_wp2_with fail
        go_ret
        exact ⟨by rw [HW.out, HX.out]; rfl, bF⟩
      | true =>
      cases t4 : decide (m.st ≤ 3) with
      | false =>
        have HX := Lib.hid (show rightT m = false by simp only [rightT, t1, t2, t3, t4, Bool.true_and, Bool.false_and])
        go_wp2_with fail
        go_ret
        exact ⟨by rw [HW.out, HX.out]; rfl, bF⟩
      | true =>
      cases t5 : decide ((m.es.length : Int) ≤ 4) with
      | false =>
        have HX := Lib.hid (show rightT m = false by simp only [rightT, t1, t2, t3, t4, t5, Bool.true_and, Bool.false_and])
        go_wp2_with fail
        go_ret
        exact ⟨by rw [HW.out, HX.out]; rfl, bF⟩
      | true =>
      cases t6 : decide ((m.ss.length : Int) ≤ 64) with
      | false =>
        have HX := Lib.hid (show rightT m = false by simp only [rightT, t1, t2, t3, t4, t5, t6, Bool.true_and, Bool.false_and])
        go_wp2_with fail
        go_ret
        exact ⟨by rw [HW.out, HX.out]; rfl, bF⟩
      | true =>
        have HX := Lib.hid (show rightT m = decide ((m.da.size : Int) ≤ 400) by simp only [rightT, t1, t2, t3, t4, t5, t6, Bool.true_and])
        go_wp2_with fail
        go_ret
        exact ⟨by rw [HW.out, HX.out]; rfl, bF⟩
set_option maxHeartbeats 8000000 in
theorem lright_any (u v : Value) (m : Mg) (w : World) (hm : m.Ok) (hE : EnsR w u m.es) (hS : SmsR w v m.ss) :
    Calls Try.prog 12 #[mgV u v m] w fun e w' => e = .returned (.bool (rightM m)) ∧ Below w.heap.size w w' := by
  obtain ⟨a, cap, rfl, hLm⟩ := hE.form
  obtain ⟨sa, scap, rfl, hSm⟩ := hS.form
  have hda := hm.da
  unfold maxLen at hLm hSm hda
  have bA := (Below.refl w.heap.size w).alloc (Nat.le_refl _) (.cells (mgA (.slice a m.es.length cap) (.slice sa m.ss.length scap) m) 29)
  have N1 := MgB.new w (.slice a m.es.length cap) (.slice sa m.ss.length scap) m
  have HE := Lib.hid hE
  clear hE hS
  rw [mgA_eq] at bA
  rw [mgV_eq]
  go_enter Try.func12, Try.ntmps12
  go_upto_region 1 with fail
  obtain ⟨w1, hw1⟩ : ∃ w1, w1 = w.alloc (.cells #[.int .i64 m.kd, .int .i64 m.fr, .int .i64 m.dt, .int .i64 m.tm, .int .i64 m.ix, .int .i64 m.lg, .int .i64 m.la, .int .i64 m.co, .slice a m.es.length cap, .bool m.ok, .int .i64 m.st, .int .i64 m.li, .int .i64 m.lt, .int .i64 m.lb, .slice sa m.ss.length scap, .int .i64 m.pa, .string m.da] 29) := ⟨_, rfl⟩
  have hw1' : w1 = w.alloc (.cells (mgA (.slice a m.es.length cap) (.slice sa m.ss.length scap) m) 29) := hw1
  rw [← hw1'] at N1
  rw [← hw1] at bA ⊢
  obtain ⟨⟨c0, c1, c2, c3, c4, c5, c6, c7, c8, c9, c10, c11, c12, c13, c14, c15, c16⟩, _⟩ := MgB.cells N1
  have hbs : w.heap.size < w1.heap.size := N1.lt
  have HN1 := Lib.hid N1
  have HEB := Lib.hid (HE.out.below bA)
  clear hw1 hw1' N1
  have HRM := Lib.hid (show rightM m = ((numsM m).all rightN && m.es.all rightE && rightT m) from rfl)
  have HRT := Lib.hid (rightTL_eq m)
  go_wp2_with fail
  go_loopw [11] (fun i wr => ∃ j : Nat, j ≤ m.es.length ∧ i = .int .i64 j ∧ Hid ((m.es.take j).all rightE = true) ∧ Below w1.heap.size w1 wr) (fun i _ => m.es.length - (intOf i).toNat)
  case atStart => exact ⟨0, Nat.zero_le _, rfl, Lib.hid rfl, Below.refl _ _⟩
  case round =>
    obtain ⟨j, hj, rfl, HT, hb⟩ := hrel
    clear c0 c1 c2 c3 c4 c5 c6 c7 c8 c9 c10 c11 c12 c13 c14 c15 c16
    by_cases hlt : j < m.es.length
    · obtain ⟨hok, g, off, rfl, h0, h1, h2⟩ := HEB.out.at hb hlt
      have hj0 : (0 : Int) ≤ (j : Int) := by omega
      have hji : (j : Int) < (m.es.length : Int) := by omega
      have t2 : IntKind.i64.wrap ((j : Int) + 1) = (j : Int) + 1 := IntWalk.i64_in _ (by omega)
      have HNX := Lib.hid (fun h => all_take (d := Ent.zero) (f := rightE) hlt HT.out h)
      have HNO := Lib.hid (fun h => all_not (d := Ent.zero) (f := rightE) hlt h)
      have hda2 := hok.da
      unfold maxLen at hda2
      generalize m.es.getD j Ent.zero = z at *
      have bG := hb.alloc hb.size (.cells #[.int .i64 z.ix, .int .i64 z.tm, .string z.da] 39)
      have HC1 := Lib.hid (fun W => okfn_any z.ix W)
      have HC2 := Lib.hid (fun W => okfn_any z.tm W)
      have HRE := Lib.hid (show rightE z = (rightN z.ix && rightN z.tm && decide ((z.da.size : Int) ≤ 488)) from rfl)
      generalize rightN z.ix = R1 at HC1 HRE
      generalize rightN z.tm = R2 at HC2 HRE
      cases d1 : decide ((488 : Int) < (z.da.size : Int)) with
      | true =>
        have HX := Lib.hid (HNO.out (by rw [HRE.out]; have : decide ((z.da.size : Int) ≤ 488) = false := by (simp at d1 ⊢; omega)
                                        rw [this]; simp))
        go_wp2_with fail
        go_ret
        exact ⟨by rw [HRM.out, HX.out]; simp, bA.trans (bG.mono bA.size)⟩
      | false =>
      have HD : Hid (decide ((z.da.size : Int) ≤ 488) = true) := Lib.hid (by simp at d1 ⊢; omega)
      go_wp2_with fail
      refine (HC1.out _).mono ?_
      rintro e w6 ⟨rfl, rfl⟩
      cases R1 with
      | false =>
        have HX := Lib.hid (HNO.out (by rw [HRE.out]; rfl))
        go_wp2_with fail
        go_ret
        exact ⟨by rw [HRM.out, HX.out]; simp, bA.trans (bG.mono bA.size)⟩
      | true =>
      go_wp2_with fail
      refine (HC2.out _).mono ?_
      rintro e w7 ⟨rfl, rfl⟩
      cases R2 with
      | false =>
        have HX := Lib.hid (HNO.out (by rw [HRE.out]; rfl))
        go_wp2_with fail
        go_ret
        exact ⟨by rw [HRM.out, HX.out]; simp, bA.trans (bG.mono bA.size)⟩
      | true =>
        have HX := Lib.hid (HNX.out (by rw [HRE.out, HD.out]; rfl))
        go_wp2_with fail
        go_roundw
        case rel => exact ⟨j + 1, by omega, by go_num, HX, bG⟩
        case measure => simp [intOf]; omega
    · obtain rfl : j = m.es.length := by omega
      have HA : Hid (m.es.all rightE = true) := Lib.hid (by have := HT.out; rwa [List.take_length] at this)
      have HW : Hid (rightM m = ((numsM m).all rightN && rightTL m)) := Lib.hid (by rw [HRM.out, HA.out, HRT.out]; simp only [Bool.and_true])
      have hlt2 : decide ((m.es.length : Int) < (m.es.length : Int)) = false := by simp
      have N4 := (hb.block w.heap.size hbs).trans HN1.out
      have N4' : MgB wr w.heap.size _ _ m := N4
      obtain ⟨⟨c0, c1, c2, c3, c4, c5, c6, c7, c8, c9, c10, c11, c12, c13, c14, c15, c16⟩, _⟩ := MgB.cells N4
      have bF := bA.trans (hb.mono bA.size)
      have bN := bF.alloc bF.size (.cells #[.int .i64 m.fr, .int .i64 m.dt, .int .i64 m.tm, .int .i64 m.ix, .int .i64 m.lg, .int .i64 m.la, .int .i64 m.co, .int .i64 m.pa, .int .i64 m.li, .int .i64 m.lt, .int .i64 m.lb] 3)
      have bM := (Below.refl _ wr).alloc (Nat.le_refl _) (.cells #[.int .i64 m.fr, .int .i64 m.dt, .int .i64 m.tm, .int .i64 m.ix, .int .i64 m.lg, .int .i64 m.la, .int .i64 m.co, .int .i64 m.pa, .int .i64 m.li, .int .i64 m.lt, .int .i64 m.lb] 3)
      have HCN := Lib.hid (show ∀ j, j < 11 → (wr.alloc (.cells #[.int .i64 m.fr, .int .i64 m.dt, .int .i64 m.tm, .int .i64 m.ix, .int .i64 m.lg, .int .i64 m.la, .int .i64 m.co, .int .i64 m.pa, .int .i64 m.li, .int .i64 m.lt, .int .i64 m.lb] 3)).cell? ⟨wr.heap.size, 0 + j, none⟩ = some (.int .i64 ((numsM m).getD j 0)) from fun j hj => cells_new (by match j, hj with
        | 0, _ => rfl
        | 1, _ => rfl
        | 2, _ => rfl
        | 3, _ => rfl
        | 4, _ => rfl
        | 5, _ => rfl
        | 6, _ => rfl
        | 7, _ => rfl
        | 8, _ => rfl
        | 9, _ => rfl
        | 10, _ => rfl))
      have N5 := N4'.below bM
      have hbs5 : w.heap.size < wr.heap.size := N4'.lt
      have HN5 := Lib.hid N5
      clear N4 N4' N5
      go_upto_region 9 with fail
      obtain ⟨w5, hw5⟩ : ∃ w5, w5 = wr.alloc (.cells #[.int .i64 m.fr, .int .i64 m.dt, .int .i64 m.tm, .int .i64 m.ix, .int .i64 m.lg, .int .i64 m.la, .int .i64 m.co, .int .i64 m.pa, .int .i64 m.li, .int .i64 m.lt, .int .i64 m.lb] 3) := ⟨_, rfl⟩
      obtain ⟨nb, hnb⟩ : ∃ nb, nb = wr.heap.size := ⟨_, rfl⟩
      rw [← hw5] at bN HCN HN5 ⊢
      rw [← hnb] at HCN ⊢
      have hbs6 : w.heap.size < w5.heap.size := HN5.out.lt
      have hnbs : nb < w5.heap.size := World.block_lt_of_cell? w5 _ (HCN.out 0 (by decide))
      have HNL := Lib.hid (show (numsM m).length = 11 from rfl)
      clear hw5 hnb bM c0 c1 c2 c3 c4 c5 c6 c7 c8 c9 c10 c11 c12 c13 c14 c15 c16
      go_wp2_with fail
      go_loopw [61] (fun i wr => ∃ j : Nat, j ≤ 11 ∧ i = .int .i64 j ∧ Hid (((numsM m).take j).all rightN = true) ∧ Below w5.heap.size w5 wr) (fun i _ => 11 - (intOf i).toNat)
      case atStart => exact ⟨0, Nat.zero_le _, rfl, Lib.hid rfl, Below.refl _ _⟩
      case round =>
        obtain ⟨j, hj, rfl, HT, hb⟩ := hrel
        by_cases hlt : j < 11
        · have hcell := (hb.cell (p := ⟨nb, 0 + j, none⟩) hnbs).trans (HCN.out j hlt)
          rw [Nat.zero_add] at hcell
          have hj0 : (0 : Int) ≤ (j : Int) := by omega
          have hji : (j : Int) < (11 : Int) := by omega
          have t2 : IntKind.i64.wrap ((j : Int) + 1) = (j : Int) + 1 := IntWalk.i64_in _ (by omega)
          have HNX := Lib.hid (fun h => all_take (d := (0 : Int)) (f := rightN) (by rw [HNL.out]; exact hlt) HT.out h)
          have HNO := Lib.hid (fun h => all_not (L := numsM m) (d := (0 : Int)) (f := rightN) (k := j) (by rw [HNL.out]; exact hlt) h)
          generalize (numsM m).getD j 0 = z at *
          have HC1 := Lib.hid (fun W => okfn_any z W)
          generalize rightN z = R1 at *
          go_wp2_with fail
          refine (HC1.out _).mono ?_
          rintro e w7 ⟨rfl, rfl⟩
          cases R1 with
          | false =>
            have HX := Lib.hid (HNO.out rfl)
            go_wp2_with fail
            go_ret
            exact ⟨by rw [HW.out, HX.out]; rfl, bN.trans (hb.mono bN.size)⟩
          | true =>
            have HX := Lib.hid (HNX.out rfl)
            go_wp2_with fail
            go_roundw
            case rel => exact ⟨j + 1, by omega, by go_num, HX, hb⟩
            case measure => simp [intOf]; omega
        · obtain rfl : j = 11 := by omega
          have HA : Hid ((numsM m).all rightN = true) := Lib.hid (by have := HT.out; rwa [List.take_of_length_le (by rw [HNL.out]; omega)] at this)
          have HW2 : Hid (rightM m = rightTL m) := Lib.hid (by rw [HW.out, HA.out]; simp only [Bool.true_and])
          have N6 := (hb.block w.heap.size hbs6).trans HN5.out
          obtain ⟨⟨c0, c1, c2, c3, c4, c5, c6, c7, c8, c9, c10, c11, c12, c13, c14, c15, c16⟩, _⟩ := MgB.cells N6
          have bH := bN.trans (hb.mono bN.size)
          cases t1 : decide (1 ≤ m.kd) with
          | false =>
            have HX := Lib.hid (show rightTL m = false by simp only [rightTL, t1, Bool.true_and, Bool.false_and])
            go_wp2_with fail
            go_ret
            exact ⟨by rw [HW2.out, HX.out]; rfl, bH⟩
          | true =>
          cases t2 : decide (m.kd ≤ 8) with
          | false =>
            have HX := Lib.hid (show rightTL m = false by simp only [rightTL, t1, t2, Bool.true_and, Bool.false_and])
            go_wp2_with fail
            go_ret
            exact ⟨by rw [HW2.out, HX.out]; rfl, bH⟩
          | true =>
          cases t3 : decide ((m.es.length : Int) ≤ 4) with
          | false =>
            have HX := Lib.hid (show rightTL m = false by simp only [rightTL, t1, t2, t3, Bool.true_and, Bool.false_and])
            go_wp2_with fail
            go_ret
            exact ⟨by rw [HW2.out, HX.out]; rfl, bH⟩
          | true =>
          cases t4 : decide (0 ≤ m.st) with
          | false =>
            have HX := Lib.hid (show rightTL m = false by simp only [rightTL, t1, t2, t3, t4, Bool.true_and, Bool.false_and])
            go_wp2_with fail
            go_ret
            exact ⟨by rw [HW2.out, HX.out]; rfl, bH⟩
          | true =>
          cases t5 : decide (m.st ≤ 3) with
          | false =>
            have HX := Lib.hid (show rightTL m = false by simp only [rightTL, t1, t2, t3, t4, t5, Bool.true_and, Bool.false_and])
            go_wp2_with fail
            go_ret
            exact ⟨by rw [HW2.out, HX.out]; rfl, bH⟩
          | true =>
          cases t6 : decide ((m.ss.length : Int) ≤ 64) with
          | false =>
            have HX := Lib.hid (show rightTL m = false by simp only [rightTL, t1, t2, t3, t4, t5, t6, Bool.true_and, Bool.false_and])
            go_wp2_with fail
            go_ret
            exact ⟨by rw [HW2.out, HX.out]; rfl, bH⟩
          | true =>
            have HX := Lib.hid (show rightTL m = decide ((m.da.size : Int) ≤ 400) by simp only [rightTL, t1, t2, t3, t4, t5, t6, Bool.true_and])
            go_wp2_with fail
            go_ret
            exact ⟨by rw [HW2.out, HX.out]; rfl, bH⟩
end Go.Proofs.Ytddkbninkncbeaa
