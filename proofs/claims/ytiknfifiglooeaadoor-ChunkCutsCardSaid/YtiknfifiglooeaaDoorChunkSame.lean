/- Same: are two lists one? No conditions beyond those in each statement. -/
import Derived.Test.YtiknfifiglooeaaDoorChunkEq
namespace Go.Proofs.YtiknfifiglooeaaDoor
open Go Go.RowKit Go.Proofs.Tryd
set_option linter.unusedVariables false
set_option maxRecDepth 100000

/-- Are they one? -/
def sameB (l o : Ls) : Bool := decide (l.index = o.index ∧ l.term = o.term ∧ l.bytes = o.bytes ∧ l.sums = o.sums)
theorem Ls.ext' {l o : Ls} (h1 : l.index = o.index) (h2 : l.term = o.term) (h3 : l.bytes = o.bytes) (h4 : l.sums = o.sums) : l = o := by
  cases l; cases o; simp only at h1 h2 h3 h4; subst h1 h2 h3 h4; rfl
theorem sameB_iff (l o : Ls) : sameB l o = true ↔ l = o := by
  unfold sameB
  rw [decide_eq_true_eq]
  exact ⟨fun ⟨h1, h2, h3, h4⟩ => Ls.ext' h1 h2 h3 h4, fun e => by subst e; exact ⟨rfl, rfl, rfl, rfl⟩⟩
set_option maxHeartbeats 4000000 in
theorem csame_any (l o : Ls) (sv ov : Value) (w : World) (hs : SmR w sv l.sums) (ho : SmR w ov o.sums) :
    Calls Tryd.prog 32 #[lsV l sv, lsV o ov] w fun e w' => e = .returned (.bool (sameB l o)) ∧ Below w.heap.size w w' := by
  obtain ⟨i, t, n, ss⟩ := l
  obtain ⟨j, u, m, os⟩ := o
  simp only at hs ho
  obtain ⟨a, c, rfl, _⟩ := id hs
  obtain ⟨b, d, rfl, _⟩ := id ho
  unfold lsV
  simp only
  have B1 := ((Below.refl w.heap.size w).alloc (Nat.le_refl _) (.cells #[.int .i64 i, .int .i64 t, .int .i64 n, .slice a ss.length c] 67)).alloc (by simp) (.cells #[.int .i64 j, .int .i64 u, .int .i64 m, .slice b os.length d] 67)
  have L1 := (LsB.new w i t n (.slice a ss.length c)).below ((Below.refl _ (w.alloc (.cells #[.int .i64 i, .int .i64 t, .int .i64 n, .slice a ss.length c] 67))).alloc (Nat.le_refl _) (.cells #[.int .i64 j, .int .i64 u, .int .i64 m, .slice b os.length d] 67))
  have L2 := LsB.new (w.alloc (.cells #[.int .i64 i, .int .i64 t, .int .i64 n, .slice a ss.length c] 67)) j u m (.slice b os.length d)
  rw [World.size_alloc] at L2
  go_enter Tryd.func32, Tryd.ntmps32
  go_upto_region 1 with fail
  generalize (w.alloc (.cells #[.int .i64 i, .int .i64 t, .int .i64 n, .slice a ss.length c] 67)).alloc (.cells #[.int .i64 j, .int .i64 u, .int .i64 m, .slice b os.length d] 67) = w1 at L1 L2 B1 ⊢
  obtain ⟨⟨l0, l1, l2, l3⟩, _⟩ := L1.cells
  obtain ⟨⟨m0, m1, m2, m3⟩, _⟩ := L2.cells
  have HE := Lib.hid (cseq_any (.slice a ss.length c) (.slice b os.length d) ss os w1 (hs.below B1) (ho.below B1))
  clear L1 L2 hs ho
  by_cases q0 : i = j
  case neg =>
    have d0 : (i == j) = false := by simp [q0]
    have HV : Hid (sameB ⟨i, t, n, ss⟩ ⟨j, u, m, os⟩ = false) := by show _ = _; unfold sameB; exact decide_eq_false (fun h => q0 h.1)
    go_wp2_with fail
    go_ret
    exact ⟨(by rw [HV.out]; rfl), B1⟩
  subst q0
  by_cases q1 : t = u
  case neg =>
    have d0 : (t == u) = false := by simp [q1]
    have HV : Hid (sameB ⟨i, t, n, ss⟩ ⟨i, u, m, os⟩ = false) := by show _ = _; unfold sameB; exact decide_eq_false (fun h => q1 h.2.1)
    go_wp2_with fail
    go_ret
    exact ⟨(by rw [HV.out]; rfl), B1⟩
  subst q1
  by_cases q2 : n = m
  case neg =>
    have d0 : (n == m) = false := by simp [q2]
    have HV : Hid (sameB ⟨i, t, n, ss⟩ ⟨i, t, m, os⟩ = false) := by show _ = _; unfold sameB; exact decide_eq_false (fun h => q2 h.2.2.1)
    go_wp2_with fail
    go_ret
    exact ⟨(by rw [HV.out]; rfl), B1⟩
  subst q2
  have HV : Hid (sameB ⟨i, t, n, ss⟩ ⟨i, t, n, os⟩ = decide (ss = os)) := by
    show _ = _
    unfold sameB
    simp
  go_wp2_with (go_at_call 73; refine HE.out.mono ?_; rintro e w5 ⟨rfl, hb5⟩)
  go_ret
  exact ⟨(by rw [HV.out]; rfl), B1.trans (hb5.mono B1.size)⟩
end Go.Proofs.YtiknfifiglooeaaDoor
