/- Same of messages: the rest. No conditions beyond those in each statement. -/
import Derived.Test.YtddkbninkncbeaaMEq
namespace Go.Proofs.Ytddkbninkncbeaa
open Go.RowKit
set_option linter.unusedVariables false
set_option linter.unusedSimpArgs false
set_option maxRecDepth 100000

set_option maxHeartbeats 16000000 in
theorem msame_rest (u1 v1 u2 v2 : Value) (m o : Mg) (w : World) (h1 : EnsR w u1 m.es) (h2 : SmsR w v1 m.ss) (h3 : EnsR w u2 o.es) (h4 : SmsR w v2 o.ss) (e0 : m.kd = o.kd) (e1 : m.fr = o.fr) (e2 : m.dt = o.dt) (e3 : m.tm = o.tm) (e4 : m.ix = o.ix) (e5 : m.lg = o.lg) (e6 : m.la = o.la) (e7 : m.co = o.co) :
    Calls Try.prog 17 #[mgV u1 v1 m, mgV u2 v2 o] w fun e w' => e = .returned (.bool (eqB m o)) ∧ Below w.heap.size w w' := by
  obtain ⟨kd, fr, dt, tm, ix, lg, la, co, es, ok, st, li, lt, lb, ss, pa, da⟩ := m
  obtain ⟨kd', fr', dt', tm', ix', lg', la', co', es', ok', st', li', lt', lb', ss', pa', da'⟩ := o
  simp only at h1 h2 h3 h4 e0 e1 e2 e3 e4 e5 e6 e7
  subst e0 e1 e2 e3 e4 e5 e6 e7

  obtain ⟨a1, cap1, rfl, _⟩ := h1.form
  obtain ⟨s1, scap1, rfl, _⟩ := h2.form
  obtain ⟨a2, cap2, rfl, _⟩ := h3.form
  obtain ⟨s2, scap2, rfl, _⟩ := h4.form
  have H1 := Lib.hid h1
  have H2 := Lib.hid h2
  have H3 := Lib.hid h3
  have H4 := Lib.hid h4
  clear h1 h2 h3 h4
  unfold mgV
  simp only
  have bA := (Below.refl w.heap.size w).alloc (Nat.le_refl _) (.cells #[.int .i64 kd, .int .i64 fr, .int .i64 dt, .int .i64 tm, .int .i64 ix, .int .i64 lg, .int .i64 la, .int .i64 co, .slice a1 es.length cap1, .bool ok, .int .i64 st, .int .i64 li, .int .i64 lt, .int .i64 lb, .slice s1 ss.length scap1, .int .i64 pa, .string da] 29)
  have bB := bA.alloc bA.size (.cells #[.int .i64 kd, .int .i64 fr, .int .i64 dt, .int .i64 tm, .int .i64 ix, .int .i64 lg, .int .i64 la, .int .i64 co, .slice a2 es'.length cap2, .bool ok', .int .i64 st', .int .i64 li', .int .i64 lt', .int .i64 lb', .slice s2 ss'.length scap2, .int .i64 pa', .string da'] 29)
  have N1 : MgB _ _ _ _ _ := MgB.new w (.slice a1 es.length cap1) (.slice s1 ss.length scap1) ⟨kd, fr, dt, tm, ix, lg, la, co, es, ok, st, li, lt, lb, ss, pa, da⟩
  have N2 : MgB _ _ _ _ _ := MgB.new (w.alloc (.cells #[.int .i64 kd, .int .i64 fr, .int .i64 dt, .int .i64 tm, .int .i64 ix, .int .i64 lg, .int .i64 la, .int .i64 co, .slice a1 es.length cap1, .bool ok, .int .i64 st, .int .i64 li, .int .i64 lt, .int .i64 lb, .slice s1 ss.length scap1, .int .i64 pa, .string da] 29)) (.slice a2 es'.length cap2) (.slice s2 ss'.length scap2) ⟨kd, fr, dt, tm, ix, lg, la, co, es', ok', st', li', lt', lb', ss', pa', da'⟩
  have N1' := N1.below ((Below.refl _ (w.alloc (.cells #[.int .i64 kd, .int .i64 fr, .int .i64 dt, .int .i64 tm, .int .i64 ix, .int .i64 lg, .int .i64 la, .int .i64 co, .slice a1 es.length cap1, .bool ok, .int .i64 st, .int .i64 li, .int .i64 lt, .int .i64 lb, .slice s1 ss.length scap1, .int .i64 pa, .string da] 29))).alloc (Nat.le_refl _) (.cells #[.int .i64 kd, .int .i64 fr, .int .i64 dt, .int .i64 tm, .int .i64 ix, .int .i64 lg, .int .i64 la, .int .i64 co, .slice a2 es'.length cap2, .bool ok', .int .i64 st', .int .i64 li', .int .i64 lt', .int .i64 lb', .slice s2 ss'.length scap2, .int .i64 pa', .string da'] 29))
  unfold mgA at N1 N1' N2
  simp only at N1 N1' N2
  go_enter Try.func17, Try.ntmps17
  go_upto_region 1 with fail
  obtain ⟨w2, hw2⟩ : ∃ w2, w2 = ((w.alloc (.cells #[.int .i64 kd, .int .i64 fr, .int .i64 dt, .int .i64 tm, .int .i64 ix, .int .i64 lg, .int .i64 la, .int .i64 co, .slice a1 es.length cap1, .bool ok, .int .i64 st, .int .i64 li, .int .i64 lt, .int .i64 lb, .slice s1 ss.length scap1, .int .i64 pa, .string da] 29)).alloc (.cells #[.int .i64 kd, .int .i64 fr, .int .i64 dt, .int .i64 tm, .int .i64 ix, .int .i64 lg, .int .i64 la, .int .i64 co, .slice a2 es'.length cap2, .bool ok', .int .i64 st', .int .i64 li', .int .i64 lt', .int .i64 lb', .slice s2 ss'.length scap2, .int .i64 pa', .string da'] 29)) := ⟨_, rfl⟩
  rw [← hw2] at N1' N2 bB ⊢
  rw [show (w.alloc (.cells #[.int .i64 kd, .int .i64 fr, .int .i64 dt, .int .i64 tm, .int .i64 ix, .int .i64 lg, .int .i64 la, .int .i64 co, .slice a1 es.length cap1, .bool ok, .int .i64 st, .int .i64 li, .int .i64 lt, .int .i64 lb, .slice s1 ss.length scap1, .int .i64 pa, .string da] 29)).heap.size = w.heap.size + 1 by simp] at N2
  obtain ⟨⟨c0, c1, c2, c3, c4, c5, c6, c7, c8, c9, c10, c11, c12, c13, c14, c15, c16⟩, _⟩ := MgB.cells N1'
  obtain ⟨⟨d0, d1, d2, d3, d4, d5, d6, d7, d8, d9, d10, d11, d12, d13, d14, d15, d16⟩, _⟩ := MgB.cells N2
  have HEQ := Lib.hid (equalen_any a1 a2 cap1 cap2 es es' w2 (H1.out.below bB) (H3.out.below bB))
  have HN1 := Lib.hid N1'
  have HN2 := Lib.hid N2
  have hs1 := N1'.lt
  have hs2 := N2.lt
  clear hw2 bA N1 N1' N2
  go_wp2_with fail
  refine HEQ.out.mono ?_
  rintro e w3 ⟨rfl, b3⟩
  have bC := bB.trans (b3.mono bB.size)
  have M1 := MgB.below HN1.out b3
  have M2 := MgB.below HN2.out b3
  clear c0 c1 c2 c3 c4 c5 c6 c7 c8 c9 c10 c11 c12 c13 c14 c15 c16 d0 d1 d2 d3 d4 d5 d6 d7 d8 d9 d10 d11 d12 d13 d14 d15 d16 HEQ
  obtain ⟨⟨c0, c1, c2, c3, c4, c5, c6, c7, c8, c9, c10, c11, c12, c13, c14, c15, c16⟩, _⟩ := MgB.cells M1
  obtain ⟨⟨d0, d1, d2, d3, d4, d5, d6, d7, d8, d9, d10, d11, d12, d13, d14, d15, d16⟩, _⟩ := MgB.cells M2
  have HM1 := Lib.hid M1
  have HM2 := Lib.hid M2
  clear M1 M2 HN1 HN2 hs1 hs2
  cases q : eqB es es' with
  | false =>
    have HF := Lib.hid (eqB_ne (fun e : (⟨kd, fr, dt, tm, ix, lg, la, co, es, ok, st, li, lt, lb, ss, pa, da⟩ : Mg) = ⟨kd, fr, dt, tm, ix, lg, la, co, es', ok', st', li', lt', lb', ss', pa', da'⟩ => eqB_false q (by injection e)))
    clear q
    go_wp2_with fail
    go_ret
    exact ⟨by rw [HF.out]; rfl, bC⟩
  | true =>
  have HQ := Lib.hid (eqB_true.1 q)
  clear q
  by_cases e9 : ok = ok'
  case neg =>
    have HF := Lib.hid (eqB_ne (fun e : (⟨kd, fr, dt, tm, ix, lg, la, co, es, ok, st, li, lt, lb, ss, pa, da⟩ : Mg) = ⟨kd, fr, dt, tm, ix, lg, la, co, es', ok', st', li', lt', lb', ss', pa', da'⟩ => e9 (by injection e)))
    have g : (ok == ok') = false := by simpa using e9
    clear e9
    go_wp2_with fail
    go_ret
    exact ⟨by rw [HF.out]; rfl, bC⟩
  by_cases e10 : st = st'
  case neg =>
    have HF := Lib.hid (eqB_ne (fun e : (⟨kd, fr, dt, tm, ix, lg, la, co, es, ok, st, li, lt, lb, ss, pa, da⟩ : Mg) = ⟨kd, fr, dt, tm, ix, lg, la, co, es', ok', st', li', lt', lb', ss', pa', da'⟩ => e10 (by injection e)))
    have g : (st == st') = false := by simpa using e10
    subst e9
    clear e10
    go_wp2_with fail
    go_ret
    exact ⟨by rw [HF.out]; rfl, bC⟩
  subst e9 e10
  have HLS := Lib.hid (listsame_any (.slice s1 ss.length scap1) (.slice s2 ss'.length scap2) li lt lb ss li' lt' lb' ss' w3 (H2.out.below bC) (H4.out.below bC))
  unfold lsV at HLS
  go_wp2_with fail
  refine HLS.out.mono ?_
  rintro e w4 ⟨rfl, b4⟩
  have bD := bC.trans (b4.mono bC.size)
  have M1 := MgB.below HM1.out b4
  have M2 := MgB.below HM2.out b4
  clear c0 c1 c2 c3 c4 c5 c6 c7 c8 c9 c10 c11 c12 c13 c14 c15 c16 d0 d1 d2 d3 d4 d5 d6 d7 d8 d9 d10 d11 d12 d13 d14 d15 d16 HLS
  obtain ⟨⟨c0, c1, c2, c3, c4, c5, c6, c7, c8, c9, c10, c11, c12, c13, c14, c15, c16⟩, _⟩ := MgB.cells M1
  obtain ⟨⟨d0, d1, d2, d3, d4, d5, d6, d7, d8, d9, d10, d11, d12, d13, d14, d15, d16⟩, _⟩ := MgB.cells M2
  clear M1 M2 HM1 HM2
  cases q : eqB (li, lt, lb, ss) (li', lt', lb', ss') with
  | false =>
    have HF := Lib.hid (eqB_ne (fun e : (⟨kd, fr, dt, tm, ix, lg, la, co, es, ok, st, li, lt, lb, ss, pa, da⟩ : Mg) = ⟨kd, fr, dt, tm, ix, lg, la, co, es', ok, st, li', lt', lb', ss', pa', da'⟩ => eqB_false q (by injection e; subst_vars; rfl)))
    clear q
    go_wp2_with fail
    go_ret
    exact ⟨by rw [HF.out]; rfl, bD⟩
  | true =>
  have HQ2 := Lib.hid (eqB_true.1 q)
  clear q
  by_cases e15 : pa = pa'
  case neg =>
    have HF := Lib.hid (eqB_ne (fun e : (⟨kd, fr, dt, tm, ix, lg, la, co, es, ok, st, li, lt, lb, ss, pa, da⟩ : Mg) = ⟨kd, fr, dt, tm, ix, lg, la, co, es', ok, st, li', lt', lb', ss', pa', da'⟩ => e15 (by injection e)))
    have g : (pa == pa') = false := by simpa using e15
    clear e15
    go_wp2_with fail
    go_ret
    exact ⟨by rw [HF.out]; rfl, bD⟩
  subst e15
  by_cases e16 : da = da'
  case neg =>
    have HF := Lib.hid (eqB_ne (fun e : (⟨kd, fr, dt, tm, ix, lg, la, co, es, ok, st, li, lt, lb, ss, pa, da⟩ : Mg) = ⟨kd, fr, dt, tm, ix, lg, la, co, es', ok, st, li', lt', lb', ss', pa, da'⟩ => e16 (by injection e)))
    have g : (da.toList == da'.toList) = false := str_ne e16
    clear e16
    go_wp2_with fail
    go_ret
    exact ⟨by rw [HF.out]; rfl, bD⟩
  subst e16
  have HF : Hid (eqB (⟨kd, fr, dt, tm, ix, lg, la, co, es, ok, st, li, lt, lb, ss, pa, da⟩ : Mg) ⟨kd, fr, dt, tm, ix, lg, la, co, es', ok, st, li', lt', lb', ss', pa, da⟩ = true) := Lib.hid (eqB_true.2 (by
    have h1 := HQ.out
    have h2 := HQ2.out
    injection h2 with p1 p2
    injection p2 with p2 p3
    injection p3 with p3 p4
    subst h1 p1 p2 p3 p4
    rfl))
  go_wp2_with fail
  go_ret
  exact ⟨by rw [HF.out]; rfl, bD⟩
end Go.Proofs.Ytddkbninkncbeaa
