/- Same of messages: told apart by a number. No conditions beyond those in each statement. -/
import Derived.Test.YtddkbninkncbeaaMEq
namespace Go.Proofs.Ytddkbninkncbeaa
open Go.RowKit
set_option linter.unusedVariables false
set_option linter.unusedSimpArgs false
set_option maxRecDepth 100000

set_option maxHeartbeats 16000000 in
theorem msame_ne0 (u1 v1 u2 v2 : Value) (m o : Mg) (w : World) (h1 : EnsR w u1 m.es) (h2 : SmsR w v1 m.ss) (h3 : EnsR w u2 o.es) (h4 : SmsR w v2 o.ss) (e0 : ¬ m.kd = o.kd) :
    Calls Try.prog 17 #[mgV u1 v1 m, mgV u2 v2 o] w fun e w' => e = .returned (.bool false) ∧ Below w.heap.size w w' := by
  obtain ⟨kd, fr, dt, tm, ix, lg, la, co, es, ok, st, li, lt, lb, ss, pa, da⟩ := m
  obtain ⟨kd', fr', dt', tm', ix', lg', la', co', es', ok', st', li', lt', lb', ss', pa', da'⟩ := o
  simp only at h1 h2 h3 h4 e0

  have G0 := Lib.hid e0
  clear e0
  obtain ⟨a1, cap1, rfl, _⟩ := h1.form
  obtain ⟨s1, scap1, rfl, _⟩ := h2.form
  obtain ⟨a2, cap2, rfl, _⟩ := h3.form
  obtain ⟨s2, scap2, rfl, _⟩ := h4.form
  have H1 := Lib.hid h1
  have H2 := Lib.hid h2
  have H3 := Lib.hid h3
  have H4 := Lib.hid h4
  clear h1 h2 h3 h4
  unfold mgV
  simp only
  have bA := (Below.refl w.heap.size w).alloc (Nat.le_refl _) (.cells #[.int .i64 kd, .int .i64 fr, .int .i64 dt, .int .i64 tm, .int .i64 ix, .int .i64 lg, .int .i64 la, .int .i64 co, .slice a1 es.length cap1, .bool ok, .int .i64 st, .int .i64 li, .int .i64 lt, .int .i64 lb, .slice s1 ss.length scap1, .int .i64 pa, .string da] 29)
  have bB := bA.alloc bA.size (.cells #[.int .i64 kd', .int .i64 fr', .int .i64 dt', .int .i64 tm', .int .i64 ix', .int .i64 lg', .int .i64 la', .int .i64 co', .slice a2 es'.length cap2, .bool ok', .int .i64 st', .int .i64 li', .int .i64 lt', .int .i64 lb', .slice s2 ss'.length scap2, .int .i64 pa', .string da'] 29)
  have N1 : MgB _ _ _ _ _ := MgB.new w (.slice a1 es.length cap1) (.slice s1 ss.length scap1) ⟨kd, fr, dt, tm, ix, lg, la, co, es, ok, st, li, lt, lb, ss, pa, da⟩
  have N2 : MgB _ _ _ _ _ := MgB.new (w.alloc (.cells #[.int .i64 kd, .int .i64 fr, .int .i64 dt, .int .i64 tm, .int .i64 ix, .int .i64 lg, .int .i64 la, .int .i64 co, .slice a1 es.length cap1, .bool ok, .int .i64 st, .int .i64 li, .int .i64 lt, .int .i64 lb, .slice s1 ss.length scap1, .int .i64 pa, .string da] 29)) (.slice a2 es'.length cap2) (.slice s2 ss'.length scap2) ⟨kd', fr', dt', tm', ix', lg', la', co', es', ok', st', li', lt', lb', ss', pa', da'⟩
  have N1' := N1.below ((Below.refl _ (w.alloc (.cells #[.int .i64 kd, .int .i64 fr, .int .i64 dt, .int .i64 tm, .int .i64 ix, .int .i64 lg, .int .i64 la, .int .i64 co, .slice a1 es.length cap1, .bool ok, .int .i64 st, .int .i64 li, .int .i64 lt, .int .i64 lb, .slice s1 ss.length scap1, .int .i64 pa, .string da] 29))).alloc (Nat.le_refl _) (.cells #[.int .i64 kd', .int .i64 fr', .int .i64 dt', .int .i64 tm', .int .i64 ix', .int .i64 lg', .int .i64 la', .int .i64 co', .slice a2 es'.length cap2, .bool ok', .int .i64 st', .int .i64 li', .int .i64 lt', .int .i64 lb', .slice s2 ss'.length scap2, .int .i64 pa', .string da'] 29))
  unfold mgA at N1 N1' N2
  simp only at N1 N1' N2
  go_enter Try.func17, Try.ntmps17
  go_upto_region 1 with fail
  obtain ⟨w2, hw2⟩ : ∃ w2, w2 = ((w.alloc (.cells #[.int .i64 kd, .int .i64 fr, .int .i64 dt, .int .i64 tm, .int .i64 ix, .int .i64 lg, .int .i64 la, .int .i64 co, .slice a1 es.length cap1, .bool ok, .int .i64 st, .int .i64 li, .int .i64 lt, .int .i64 lb, .slice s1 ss.length scap1, .int .i64 pa, .string da] 29)).alloc (.cells #[.int .i64 kd', .int .i64 fr', .int .i64 dt', .int .i64 tm', .int .i64 ix', .int .i64 lg', .int .i64 la', .int .i64 co', .slice a2 es'.length cap2, .bool ok', .int .i64 st', .int .i64 li', .int .i64 lt', .int .i64 lb', .slice s2 ss'.length scap2, .int .i64 pa', .string da'] 29)) := ⟨_, rfl⟩
  rw [← hw2] at N1' N2 bB ⊢
  rw [show (w.alloc (.cells #[.int .i64 kd, .int .i64 fr, .int .i64 dt, .int .i64 tm, .int .i64 ix, .int .i64 lg, .int .i64 la, .int .i64 co, .slice a1 es.length cap1, .bool ok, .int .i64 st, .int .i64 li, .int .i64 lt, .int .i64 lb, .slice s1 ss.length scap1, .int .i64 pa, .string da] 29)).heap.size = w.heap.size + 1 by simp] at N2
  obtain ⟨⟨c0, c1, c2, c3, c4, c5, c6, c7, c8, c9, c10, c11, c12, c13, c14, c15, c16⟩, _⟩ := MgB.cells N1'
  obtain ⟨⟨d0, d1, d2, d3, d4, d5, d6, d7, d8, d9, d10, d11, d12, d13, d14, d15, d16⟩, _⟩ := MgB.cells N2
  have HEQ := Lib.hid (equalen_any a1 a2 cap1 cap2 es es' w2 (H1.out.below bB) (H3.out.below bB))
  have HN1 := Lib.hid N1'
  have HN2 := Lib.hid N2
  have hs1 := N1'.lt
  have hs2 := N2.lt
  clear hw2 bA N1 N1' N2
  have g : (kd == kd') = false := by simpa using G0.out
  clear G0
  go_wp2_with fail
  go_ret
  exact ⟨rfl, bB⟩
set_option maxHeartbeats 16000000 in
theorem msame_ne1 (u1 v1 u2 v2 : Value) (m o : Mg) (w : World) (h1 : EnsR w u1 m.es) (h2 : SmsR w v1 m.ss) (h3 : EnsR w u2 o.es) (h4 : SmsR w v2 o.ss) (e0 : m.kd = o.kd) (e1 : ¬ m.fr = o.fr) :
    Calls Try.prog 17 #[mgV u1 v1 m, mgV u2 v2 o] w fun e w' => e = .returned (.bool false) ∧ Below w.heap.size w w' := by
  obtain ⟨kd, fr, dt, tm, ix, lg, la, co, es, ok, st, li, lt, lb, ss, pa, da⟩ := m
  obtain ⟨kd', fr', dt', tm', ix', lg', la', co', es', ok', st', li', lt', lb', ss', pa', da'⟩ := o
  simp only at h1 h2 h3 h4 e0 e1
  subst e0
  have G1 := Lib.hid e1
  clear e1
  obtain ⟨a1, cap1, rfl, _⟩ := h1.form
  obtain ⟨s1, scap1, rfl, _⟩ := h2.form
  obtain ⟨a2, cap2, rfl, _⟩ := h3.form
  obtain ⟨s2, scap2, rfl, _⟩ := h4.form
  have H1 := Lib.hid h1
  have H2 := Lib.hid h2
  have H3 := Lib.hid h3
  have H4 := Lib.hid h4
  clear h1 h2 h3 h4
  unfold mgV
  simp only
  have bA := (Below.refl w.heap.size w).alloc (Nat.le_refl _) (.cells #[.int .i64 kd, .int .i64 fr, .int .i64 dt, .int .i64 tm, .int .i64 ix, .int .i64 lg, .int .i64 la, .int .i64 co, .slice a1 es.length cap1, .bool ok, .int .i64 st, .int .i64 li, .int .i64 lt, .int .i64 lb, .slice s1 ss.length scap1, .int .i64 pa, .string da] 29)
  have bB := bA.alloc bA.size (.cells #[.int .i64 kd, .int .i64 fr', .int .i64 dt', .int .i64 tm', .int .i64 ix', .int .i64 lg', .int .i64 la', .int .i64 co', .slice a2 es'.length cap2, .bool ok', .int .i64 st', .int .i64 li', .int .i64 lt', .int .i64 lb', .slice s2 ss'.length scap2, .int .i64 pa', .string da'] 29)
  have N1 : MgB _ _ _ _ _ := MgB.new w (.slice a1 es.length cap1) (.slice s1 ss.length scap1) ⟨kd, fr, dt, tm, ix, lg, la, co, es, ok, st, li, lt, lb, ss, pa, da⟩
  have N2 : MgB _ _ _ _ _ := MgB.new (w.alloc (.cells #[.int .i64 kd, .int .i64 fr, .int .i64 dt, .int .i64 tm, .int .i64 ix, .int .i64 lg, .int .i64 la, .int .i64 co, .slice a1 es.length cap1, .bool ok, .int .i64 st, .int .i64 li, .int .i64 lt, .int .i64 lb, .slice s1 ss.length scap1, .int .i64 pa, .string da] 29)) (.slice a2 es'.length cap2) (.slice s2 ss'.length scap2) ⟨kd, fr', dt', tm', ix', lg', la', co', es', ok', st', li', lt', lb', ss', pa', da'⟩
  have N1' := N1.below ((Below.refl _ (w.alloc (.cells #[.int .i64 kd, .int .i64 fr, .int .i64 dt, .int .i64 tm, .int .i64 ix, .int .i64 lg, .int .i64 la, .int .i64 co, .slice a1 es.length cap1, .bool ok, .int .i64 st, .int .i64 li, .int .i64 lt, .int .i64 lb, .slice s1 ss.length scap1, .int .i64 pa, .string da] 29))).alloc (Nat.le_refl _) (.cells #[.int .i64 kd, .int .i64 fr', .int .i64 dt', .int .i64 tm', .int .i64 ix', .int .i64 lg', .int .i64 la', .int .i64 co', .slice a2 es'.length cap2, .bool ok', .int .i64 st', .int .i64 li', .int .i64 lt', .int .i64 lb', .slice s2 ss'.length scap2, .int .i64 pa', .string da'] 29))
  unfold mgA at N1 N1' N2
  simp only at N1 N1' N2
  go_enter Try.func17, Try.ntmps17
  go_upto_region 1 with fail
  obtain ⟨w2, hw2⟩ : ∃ w2, w2 = ((w.alloc (.cells #[.int .i64 kd, .int .i64 fr, .int .i64 dt, .int .i64 tm, .int .i64 ix, .int .i64 lg, .int .i64 la, .int .i64 co, .slice a1 es.length cap1, .bool ok, .int .i64 st, .int .i64 li, .int .i64 lt, .int .i64 lb, .slice s1 ss.length scap1, .int .i64 pa, .string da] 29)).alloc (.cells #[.int .i64 kd, .int .i64 fr', .int .i64 dt', .int .i64 tm', .int .i64 ix', .int .i64 lg', .int .i64 la', .int .i64 co', .slice a2 es'.length cap2, .bool ok', .int .i64 st', .int .i64 li', .int .i64 lt', .int .i64 lb', .slice s2 ss'.length scap2, .int .i64 pa', .string da'] 29)) := ⟨_, rfl⟩
  rw [← hw2] at N1' N2 bB ⊢
  rw [show (w.alloc (.cells #[.int .i64 kd, .int .i64 fr, .int .i64 dt, .int .i64 tm, .int .i64 ix, .int .i64 lg, .int .i64 la, .int .i64 co, .slice a1 es.length cap1, .bool ok, .int .i64 st, .int .i64 li, .int .i64 lt, .int .i64 lb, .slice s1 ss.length scap1, .int .i64 pa, .string da] 29)).heap.size = w.heap.size + 1 by simp] at N2
  obtain ⟨⟨c0, c1, c2, c3, c4, c5, c6, c7, c8, c9, c10, c11, c12, c13, c14, c15, c16⟩, _⟩ := MgB.cells N1'
  obtain ⟨⟨d0, d1, d2, d3, d4, d5, d6, d7, d8, d9, d10, d11, d12, d13, d14, d15, d16⟩, _⟩ := MgB.cells N2
  have HEQ := Lib.hid (equalen_any a1 a2 cap1 cap2 es es' w2 (H1.out.below bB) (H3.out.below bB))
  have HN1 := Lib.hid N1'
  have HN2 := Lib.hid N2
  have hs1 := N1'.lt
  have hs2 := N2.lt
  clear hw2 bA N1 N1' N2
  have g : (fr == fr') = false := by simpa using G1.out
  clear G1
  go_wp2_with fail
  go_ret
  exact ⟨rfl, bB⟩
set_option maxHeartbeats 16000000 in
theorem msame_ne2 (u1 v1 u2 v2 : Value) (m o : Mg) (w : World) (h1 : EnsR w u1 m.es) (h2 : SmsR w v1 m.ss) (h3 : EnsR w u2 o.es) (h4 : SmsR w v2 o.ss) (e0 : m.kd = o.kd) (e1 : m.fr = o.fr) (e2 : ¬ m.dt = o.dt) :
    Calls Try.prog 17 #[mgV u1 v1 m, mgV u2 v2 o] w fun e w' => e = .returned (.bool false) ∧ Below w.heap.size w w' := by
  obtain ⟨kd, fr, dt, tm, ix, lg, la, co, es, ok, st, li, lt, lb, ss, pa, da⟩ := m
  obtain ⟨kd', fr', dt', tm', ix', lg', la', co', es', ok', st', li', lt', lb', ss', pa', da'⟩ := o
  simp only at h1 h2 h3 h4 e0 e1 e2
  subst e0 e1
  have G2 := Lib.hid e2
  clear e2
  obtain ⟨a1, cap1, rfl, _⟩ := h1.form
  obtain ⟨s1, scap1, rfl, _⟩ := h2.form
  obtain ⟨a2, cap2, rfl, _⟩ := h3.form
  obtain ⟨s2, scap2, rfl, _⟩ := h4.form
  have H1 := Lib.hid h1
  have H2 := Lib.hid h2
  have H3 := Lib.hid h3
  have H4 := Lib.hid h4
  clear h1 h2 h3 h4
  unfold mgV
  simp only
  have bA := (Below.refl w.heap.size w).alloc (Nat.le_refl _) (.cells #[.int .i64 kd, .int .i64 fr, .int .i64 dt, .int .i64 tm, .int .i64 ix, .int .i64 lg, .int .i64 la, .int .i64 co, .slice a1 es.length cap1, .bool ok, .int .i64 st, .int .i64 li, .int .i64 lt, .int .i64 lb, .slice s1 ss.length scap1, .int .i64 pa, .string da] 29)
  have bB := bA.alloc bA.size (.cells #[.int .i64 kd, .int .i64 fr, .int .i64 dt', .int .i64 tm', .int .i64 ix', .int .i64 lg', .int .i64 la', .int .i64 co', .slice a2 es'.length cap2, .bool ok', .int .i64 st', .int .i64 li', .int .i64 lt', .int .i64 lb', .slice s2 ss'.length scap2, .int .i64 pa', .string da'] 29)
  have N1 : MgB _ _ _ _ _ := MgB.new w (.slice a1 es.length cap1) (.slice s1 ss.length scap1) ⟨kd, fr, dt, tm, ix, lg, la, co, es, ok, st, li, lt, lb, ss, pa, da⟩
  have N2 : MgB _ _ _ _ _ := MgB.new (w.alloc (.cells #[.int .i64 kd, .int .i64 fr, .int .i64 dt, .int .i64 tm, .int .i64 ix, .int .i64 lg, .int .i64 la, .int .i64 co, .slice a1 es.length cap1, .bool ok, .int .i64 st, .int .i64 li, .int .i64 lt, .int .i64 lb, .slice s1 ss.length scap1, .int .i64 pa, .string da] 29)) (.slice a2 es'.length cap2) (.slice s2 ss'.length scap2) ⟨kd, fr, dt', tm', ix', lg', la', co', es', ok', st', li', lt', lb', ss', pa', da'⟩
  have N1' := N1.below ((Below.refl _ (w.alloc (.cells #[.int .i64 kd, .int .i64 fr, .int .i64 dt, .int .i64 tm, .int .i64 ix, .int .i64 lg, .int .i64 la, .int .i64 co, .slice a1 es.length cap1, .bool ok, .int .i64 st, .int .i64 li, .int .i64 lt, .int .i64 lb, .slice s1 ss.length scap1, .int .i64 pa, .string da] 29))).alloc (Nat.le_refl _) (.cells #[.int .i64 kd, .int .i64 fr, .int .i64 dt', .int .i64 tm', .int .i64 ix', .int .i64 lg', .int .i64 la', .int .i64 co', .slice a2 es'.length cap2, .bool ok', .int .i64 st', .int .i64 li', .int .i64 lt', .int .i64 lb', .slice s2 ss'.length scap2, .int .i64 pa', .string da'] 29))
  unfold mgA at N1 N1' N2
  simp only at N1 N1' N2
  go_enter Try.func17, Try.ntmps17
  go_upto_region 1 with fail
  obtain ⟨w2, hw2⟩ : ∃ w2, w2 = ((w.alloc (.cells #[.int .i64 kd, .int .i64 fr, .int .i64 dt, .int .i64 tm, .int .i64 ix, .int .i64 lg, .int .i64 la, .int .i64 co, .slice a1 es.length cap1, .bool ok, .int .i64 st, .int .i64 li, .int .i64 lt, .int .i64 lb, .slice s1 ss.length scap1, .int .i64 pa, .string da] 29)).alloc (.cells #[.int .i64 kd, .int .i64 fr, .int .i64 dt', .int .i64 tm', .int .i64 ix', .int .i64 lg', .int .i64 la', .int .i64 co', .slice a2 es'.length cap2, .bool ok', .int .i64 st', .int .i64 li', .int .i64 lt', .int .i64 lb', .slice s2 ss'.length scap2, .int .i64 pa', .string da'] 29)) := ⟨_, rfl⟩
  rw [← hw2] at N1' N2 bB ⊢
  rw [show (w.alloc (.cells #[.int .i64 kd, .int .i64 fr, .int .i64 dt, .int .i64 tm, .int .i64 ix, .int .i64 lg, .int .i64 la, .int .i64 co, .slice a1 es.length cap1, .bool ok, .int .i64 st, .int .i64 li, .int .i64 lt, .int .i64 lb, .slice s1 ss.length scap1, .int .i64 pa, .string da] 29)).heap.size = w.heap.size + 1 by simp] at N2
  obtain ⟨⟨c0, c1, c2, c3, c4, c5, c6, c7, c8, c9, c10, c11, c12, c13, c14, c15, c16⟩, _⟩ := MgB.cells N1'
  obtain ⟨⟨d0, d1, d2, d3, d4, d5, d6, d7, d8, d9, d10, d11, d12, d13, d14, d15, d16⟩, _⟩ := MgB.cells N2
  have HEQ := Lib.hid (equalen_any a1 a2 cap1 cap2 es es' w2 (H1.out.below bB) (H3.out.below bB))
  have HN1 := Lib.hid N1'
  have HN2 := Lib.hid N2
  have hs1 := N1'.lt
  have hs2 := N2.lt
  clear hw2 bA N1 N1' N2
  have g : (dt == dt') = false := by simpa using G2.out
  clear G2
  go_wp2_with fail
  go_ret
  exact ⟨rfl, bB⟩
set_option maxHeartbeats 16000000 in
theorem msame_ne3 (u1 v1 u2 v2 : Value) (m o : Mg) (w : World) (h1 : EnsR w u1 m.es) (h2 : SmsR w v1 m.ss) (h3 : EnsR w u2 o.es) (h4 : SmsR w v2 o.ss) (e0 : m.kd = o.kd) (e1 : m.fr = o.fr) (e2 : m.dt = o.dt) (e3 : ¬ m.tm = o.tm) :
    Calls Try.prog 17 #[mgV u1 v1 m, mgV u2 v2 o] w fun e w' => e = .returned (.bool false) ∧ Below w.heap.size w w' := by
  obtain ⟨kd, fr, dt, tm, ix, lg, la, co, es, ok, st, li, lt, lb, ss, pa, da⟩ := m
  obtain ⟨kd', fr', dt', tm', ix', lg', la', co', es', ok', st', li', lt', lb', ss', pa', da'⟩ := o
  simp only at h1 h2 h3 h4 e0 e1 e2 e3
  subst e0 e1 e2
  have G3 := Lib.hid e3
  clear e3
  obtain ⟨a1, cap1, rfl, _⟩ := h1.form
  obtain ⟨s1, scap1, rfl, _⟩ := h2.form
  obtain ⟨a2, cap2, rfl, _⟩ := h3.form
  obtain ⟨s2, scap2, rfl, _⟩ := h4.form
  have H1 := Lib.hid h1
  have H2 := Lib.hid h2
  have H3 := Lib.hid h3
  have H4 := Lib.hid h4
  clear h1 h2 h3 h4
  unfold mgV
  simp only
  have bA := (Below.refl w.heap.size w).alloc (Nat.le_refl _) (.cells #[.int .i64 kd, .int .i64 fr, .int .i64 dt, .int .i64 tm, .int .i64 ix, .int .i64 lg, .int .i64 la, .int .i64 co, .slice a1 es.length cap1, .bool ok, .int .i64 st, .int .i64 li, .int .i64 lt, .int .i64 lb, .slice s1 ss.length scap1, .int .i64 pa, .string da] 29)
  have bB := bA.alloc bA.size (.cells #[.int .i64 kd, .int .i64 fr, .int .i64 dt, .int .i64 tm', .int .i64 ix', .int .i64 lg', .int .i64 la', .int .i64 co', .slice a2 es'.length cap2, .bool ok', .int .i64 st', .int .i64 li', .int .i64 lt', .int .i64 lb', .slice s2 ss'.length scap2, .int .i64 pa', .string da'] 29)
  have N1 : MgB _ _ _ _ _ := MgB.new w (.slice a1 es.length cap1) (.slice s1 ss.length scap1) ⟨kd, fr, dt, tm, ix, lg, la, co, es, ok, st, li, lt, lb, ss, pa, da⟩
  have N2 : MgB _ _ _ _ _ := MgB.new (w.alloc (.cells #[.int .i64 kd, .int .i64 fr, .int .i64 dt, .int .i64 tm, .int .i64 ix, .int .i64 lg, .int .i64 la, .int .i64 co, .slice a1 es.length cap1, .bool ok, .int .i64 st, .int .i64 li, .int .i64 lt, .int .i64 lb, .slice s1 ss.length scap1, .int .i64 pa, .string da] 29)) (.slice a2 es'.length cap2) (.slice s2 ss'.length scap2) ⟨kd, fr, dt, tm', ix', lg', la', co', es', ok', st', li', lt', lb', ss', pa', da'⟩
  have N1' := N1.below ((Below.refl _ (w.alloc (.cells #[.int .i64 kd, .int .i64 fr, .int .i64 dt, .int .i64 tm, .int .i64 ix, .int .i64 lg, .int .i64 la, .int .i64 co, .slice a1 es.length cap1, .bool ok, .int .i64 st, .int .i64 li, .int .i64 lt, .int .i64 lb, .slice s1 ss.length scap1, .int .i64 pa, .string da] 29))).alloc (Nat.le_refl _) (.cells #[.int .i64 kd, .int .i64 fr, .int .i64 dt, .int .i64 tm', .int .i64 ix', .int .i64 lg', .int .i64 la', .int .i64 co', .slice a2 es'.length cap2, .bool ok', .int .i64 st', .int .i64 li', .int .i64 lt', .int .i64 lb', .slice s2 ss'.length scap2, .int .i64 pa', .string da'] 29))
  unfold mgA at N1 N1' N2
  simp only at N1 N1' N2
  go_enter Try.func17, Try.ntmps17
  go_upto_region 1 with fail
  obtain ⟨w2, hw2⟩ : ∃ w2, w2 = ((w.alloc (.cells #[.int .i64 kd, .int .i64 fr, .int .i64 dt, .int .i64 tm, .int .i64 ix, .int .i64 lg, .int .i64 la, .int .i64 co, .slice a1 es.length cap1, .bool ok, .int .i64 st, .int .i64 li, .int .i64 lt, .int .i64 lb, .slice s1 ss.length scap1, .int .i64 pa, .string da] 29)).alloc (.cells #[.int .i64 kd, .int .i64 fr, .int .i64 dt, .int .i64 tm', .int .i64 ix', .int .i64 lg', .int .i64 la', .int .i64 co', .slice a2 es'.length cap2, .bool ok', .int .i64 st', .int .i64 li', .int .i64 lt', .int .i64 lb', .slice s2 ss'.length scap2, .int .i64 pa', .string da'] 29)) := ⟨_, rfl⟩
  rw [← hw2] at N1' N2 bB ⊢
  rw [show (w.alloc (.cells #[.int .i64 kd, .int .i64 fr, .int .i64 dt, .int .i64 tm, .int .i64 ix, .int .i64 lg, .int .i64 la, .int .i64 co, .slice a1 es.length cap1, .bool ok, .int .i64 st, .int .i64 li, .int .i64 lt, .int .i64 lb, .slice s1 ss.length scap1, .int .i64 pa, .string da] 29)).heap.size = w.heap.size + 1 by simp] at N2
  obtain ⟨⟨c0, c1, c2, c3, c4, c5, c6, c7, c8, c9, c10, c11, c12, c13, c14, c15, c16⟩, _⟩ := MgB.cells N1'
  obtain ⟨⟨d0, d1, d2, d3, d4, d5, d6, d7, d8, d9, d10, d11, d12, d13, d14, d15, d16⟩, _⟩ := MgB.cells N2
  have HEQ := Lib.hid (equalen_any a1 a2 cap1 cap2 es es' w2 (H1.out.below bB) (H3.out.below bB))
  have HN1 := Lib.hid N1'
  have HN2 := Lib.hid N2
  have hs1 := N1'.lt
  have hs2 := N2.lt
  clear hw2 bA N1 N1' N2
  have g : (tm == tm') = false := by simpa using G3.out
  clear G3
  go_wp2_with fail
  go_ret
  exact ⟨rfl, bB⟩
end Go.Proofs.Ytddkbninkncbeaa
