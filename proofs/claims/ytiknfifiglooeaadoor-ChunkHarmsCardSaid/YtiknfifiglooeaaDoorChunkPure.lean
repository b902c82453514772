/- A list's validity; the blocks of a store; what stands in them. No conditions beyond those in each statement. -/
import Derived.Test.YtiknfifiglooeaaDoorChunkOf
namespace Go.Proofs.YtiknfifiglooeaaDoor
open Go.RowKit
set_option linter.unusedVariables false
set_option maxRecDepth 100000

/-- Can a store have it? -/
def validB (i t n : Int) (m : Nat) : Bool := decide (1 ≤ i ∧ i ≤ 1099511627776 ∧ 1 ≤ t ∧ t ≤ 1099511627776 ∧ (m : Int) ≤ 64 ∧ (m : Int) = (n + 399) / 400)
set_option maxHeartbeats 4000000 in
theorem cvalid_any (i t n : Int) (m : Nat) (sa : Option Addr) (cap : Nat) (hn : 0 ≤ n ∧ n ≤ 1000000000000000) (hm : m ≤ 1000000000000) (w : World) :
    Calls Tryd.prog 75 #[.agg #[.int .i64 i, .int .i64 t, .int .i64 n, .slice sa m cap]] w fun e w' => e = .returned (.bool (validB i t n m)) ∧ Below w.heap.size w w' := by
  have B1 := (Below.refl w.heap.size w).alloc (Nat.le_refl _) (.cells #[.int .i64 i, .int .i64 t, .int .i64 n, .slice sa m cap] 67)
  have L1 := LsB.new w i t n (.slice sa m cap)
  have e1 : IntKind.i64.wrap (n + 400) = n + 400 := IntWalk.i64_in _ (by omega)
  have e2 : IntKind.i64.wrap (n + 400 - 1) = n + 399 := by rw [IntWalk.i64_in _ (by omega)]; omega
  have e3 : (n + 399).tdiv 400 = (n + 399) / 400 := Int.tdiv_eq_ediv_of_nonneg (by omega)
  go_enter Tryd.func75, Tryd.ntmps75
  go_upto_region 1 with fail
  generalize w.alloc (.cells #[.int .i64 i, .int .i64 t, .int .i64 n, .slice sa m cap] 67) = w1 at L1 B1 ⊢
  obtain ⟨⟨l0, l1, l2, l3⟩, _⟩ := L1.cells
  clear L1
  by_cases q0 : (1 : Int) ≤ i
  case neg =>
    have d0 : decide ((1 : Int) ≤ i) = false := by simp; omega
    have HV : Hid (validB i t n m = false) := by show _ = _; unfold validB; exact decide_eq_false (fun h => q0 (by omega))
    go_wp2_with fail
    go_ret
    exact ⟨(by rw [HV.out]; rfl), B1⟩
  have d0 : decide ((1 : Int) ≤ i) = true := by simp; omega
  by_cases q1 : i ≤ 1099511627776
  case neg =>
    have d1 : decide (i ≤ (1099511627776 : Int)) = false := by simp; omega
    have HV : Hid (validB i t n m = false) := by show _ = _; unfold validB; exact decide_eq_false (fun h => q1 (by omega))
    go_wp2_with fail
    go_ret
    exact ⟨(by rw [HV.out]; rfl), B1⟩
  have d1 : decide (i ≤ (1099511627776 : Int)) = true := by simp; omega
  by_cases q2 : (1 : Int) ≤ t
  case neg =>
    have d2 : decide ((1 : Int) ≤ t) = false := by simp; omega
    have HV : Hid (validB i t n m = false) := by show _ = _; unfold validB; exact decide_eq_false (fun h => q2 (by omega))
    go_wp2_with fail
    go_ret
    exact ⟨(by rw [HV.out]; rfl), B1⟩
  have d2 : decide ((1 : Int) ≤ t) = true := by simp; omega
  by_cases q3 : t ≤ 1099511627776
  case neg =>
    have d3 : decide (t ≤ (1099511627776 : Int)) = false := by simp; omega
    have HV : Hid (validB i t n m = false) := by show _ = _; unfold validB; exact decide_eq_false (fun h => q3 (by omega))
    go_wp2_with fail
    go_ret
    exact ⟨(by rw [HV.out]; rfl), B1⟩
  have d3 : decide (t ≤ (1099511627776 : Int)) = true := by simp; omega
  by_cases q4 : (m : Int) ≤ 64
  case neg =>
    have d4 : decide ((m : Int) ≤ 64) = false := by simp; omega
    have HV : Hid (validB i t n m = false) := by show _ = _; unfold validB; exact decide_eq_false (fun h => q4 (by omega))
    go_wp2_with fail
    go_ret
    exact ⟨(by rw [HV.out]; rfl), B1⟩
  have d4 : decide ((m : Int) ≤ 64) = true := by simp; omega
  by_cases q5 : (m : Int) = (n + 399) / 400
  case neg =>
    have d5 : ((m : Int) == (n + 399) / 400) = false := by simp [q5]
    have HV : Hid (validB i t n m = false) := by show _ = _; unfold validB; exact decide_eq_false (fun h => q5 (by omega))
    go_wp2_with fail
    go_ret
    exact ⟨(by rw [HV.out]; rfl), B1⟩
  have d5 : ((m : Int) == (n + 399) / 400) = true := by simp [q5]
  have HV : Hid (validB i t n m = true) := by show _ = _; unfold validB; exact decide_eq_true ⟨by omega, by omega, by omega, by omega, by omega, q5⟩
  go_wp2_with fail
  go_ret
  exact ⟨(by rw [HV.out]; rfl), B1⟩
/-- A store's block. -/
def CsB (w : World) (b B : Nat) (base i t n : Int) (sv : Value) (area : Int) : Prop :=
  w.heap[b]? = some (.cells #[.pointer (some ⟨B, 0, none⟩), .int .i64 base, .int .i64 i, .int .i64 t, .int .i64 n, sv, .int .i64 area] 142 (0, 0))
section
variable {w w' : World} {b B : Nat} {base i t n area : Int} {sv : Value}
theorem CsB.lt (h : CsB w b B base i t n sv area) : b < w.heap.size := lt_of_block h
theorem CsB.below (h : CsB w b B base i t n sv area) (k : Below w.heap.size w w') : CsB w' b B base i t n sv area := (k.block b h.lt).trans h
theorem CsB.keep {E : Nat → Prop} (h : CsB w b B base i t n sv area) (k : Kept E w w') (hb : E b) : CsB w' b B base i t n sv area := (k b hb).trans h
theorem CsB.cells (h : CsB w b B base i t n sv area) : (w.cell? ⟨b, 0, none⟩ = some (.pointer (some ⟨B, 0, none⟩)) ∧ w.cell? ⟨b, 1, none⟩ = some (.int .i64 base) ∧ w.cell? ⟨b, 2, none⟩ = some (.int .i64 i) ∧ w.cell? ⟨b, 3, none⟩ = some (.int .i64 t) ∧ w.cell? ⟨b, 4, none⟩ = some (.int .i64 n) ∧ w.cell? ⟨b, 5, none⟩ = some sv ∧ w.cell? ⟨b, 6, none⟩ = some (.int .i64 area)) ∧
    w.frozen? ⟨b, 2, none⟩ = false ∧ w.frozen? ⟨b, 3, none⟩ = false ∧ w.frozen? ⟨b, 4, none⟩ = false ∧ w.frozen? ⟨b, 5, none⟩ = false ∧ w.frozen? ⟨b, 6, none⟩ = false :=
  ⟨⟨cell_of h rfl, cell_of h rfl, cell_of h rfl, cell_of h rfl, cell_of h rfl, cell_of h rfl, cell_of h rfl⟩, free_of h, free_of h, free_of h, free_of h, free_of h⟩
theorem cempty_any (h : CsB w b B base i t n sv area) : Calls Tryd.prog 76 #[.pointer (some ⟨b, 0, none⟩)] w fun e w' => e = .returned (.bool (decide (i = 0))) ∧ w = w' := by
  obtain ⟨⟨c0, c1, c2, c3, c4, c5, c6⟩, _⟩ := h.cells
  clear h
  by_cases h0 : i = 0
  · subst h0
    go_enter Tryd.func76, Tryd.ntmps76
    go_wp2_with fail
    go_ret
    exact ⟨rfl, rfl⟩
  · have d0 : (i == 0) = false := by simp [h0]
    have HV : Hid (decide (i = 0) = false) := by show _ = _; simp [h0]
    go_enter Tryd.func76, Tryd.ntmps76
    go_wp2_with fail
    go_ret
    exact ⟨(by rw [HV.out]; rfl), rfl⟩
theorem cempty_nil (w : World) : Calls Tryd.prog 76 #[.pointer none] w fun e w' => e = .returned (.bool true) ∧ w = w' := by
  go_enter Tryd.func76, Tryd.ntmps76
  go_wp2_with fail
  go_ret
  exact ⟨rfl, rfl⟩
theorem ccopyb_any (h : CsB w b B base i t n sv area) (ar k : Int) (hb : 0 ≤ base ∧ base ≤ 1000000000) (ha : 0 ≤ ar ∧ ar ≤ 1) (hk : 0 ≤ k ∧ k ≤ 2) : Calls Tryd.prog 110 #[.pointer (some ⟨b, 0, none⟩), .int .i64 ar, .int .i64 k] w fun e w' => e = .returned (.int .i64 (base + ar * 66 + k)) ∧ w = w' := by
  obtain ⟨⟨c0, c1, c2, c3, c4, c5, c6⟩, _⟩ := h.cells
  have e1 : IntKind.i64.wrap (ar * 66) = ar * 66 := IntWalk.i64_in _ (by omega)
  have e2 : IntKind.i64.wrap (base + ar * 66) = base + ar * 66 := IntWalk.i64_in _ (by omega)
  have e3 : IntKind.i64.wrap (base + ar * 66 + k) = base + ar * 66 + k := IntWalk.i64_in _ (by omega)
  clear h
  go_enter Tryd.func110, Tryd.ntmps110
  go_wp2_with fail
  go_ret
  exact ⟨rfl, rfl⟩
theorem cchunkb_any (h : CsB w b B base i t n sv area) (ar k : Int) (hb : 0 ≤ base ∧ base ≤ 1000000000) (ha : 0 ≤ ar ∧ ar ≤ 1) (hk : 0 ≤ k ∧ k ≤ 1000000) : Calls Tryd.prog 78 #[.pointer (some ⟨b, 0, none⟩), .int .i64 ar, .int .i64 k] w fun e w' => e = .returned (.int .i64 (base + ar * 66 + 2 + k)) ∧ w = w' := by
  have e1 : IntKind.i64.wrap (base + ar * 66 + 2 + k) = base + ar * 66 + 2 + k := IntWalk.i64_in _ (by omega)
  have H := Lib.hid (ccopyb_any h ar 2 hb ha ⟨by decide, by decide⟩)
  clear h
  go_enter Tryd.func78, Tryd.ntmps78
  go_wp2_with fail
  refine H.out.mono ?_
  rintro e w1 ⟨rfl, rfl⟩
  go_wp2_with fail
  go_ret
  exact ⟨rfl, rfl⟩
end
/-- What stands in a chunk's block. -/
def chunkR (i k : Int) (c : ByteArray) : Rc := ⟨5, i, k, c⟩
theorem cret79 (A : Act) (W : World) (b : Nat) (r : Rc) (Q : Ending → World → Prop) (h2 : A.tmps.getD 6 undef = .pointer (some ⟨b, 0, none⟩)) (hd : A.defers = []) (hr : RecB W b r)
    (hq : Q (.returned (recV r)) W) : bodyPost Tryd.prog Tryd.f79 Q Exit.ret A W := by
  obtain ⟨⟨c0, c1, c2, c3⟩, _⟩ := hr.cells
  have e2 : A.tmps[6]?.getD undef = .pointer (some ⟨b, 0, none⟩) := by simpa using h2
  exact bodyPost_ret (v := recV r) (by simp [results, Tryd.results79, go_sem, recV, e2, c0, c1, c2, c3]) hd hq
theorem cchunkr_any (i t n : Int) (sv : Value) (hsv : ∃ a m c, sv = .slice a m c) (k : Int) (c : ByteArray) (w : World) :
    Calls Tryd.prog 79 #[.agg #[.int .i64 i, .int .i64 t, .int .i64 n, sv], .int .i64 k, .string c] w fun e w' => e = .returned (recV (chunkR i k c)) ∧ Below w.heap.size w w' := by
  obtain ⟨a, m, cap, rfl⟩ := hsv
  have B1 := ((Below.refl w.heap.size w).alloc (Nat.le_refl _) (.cells #[.int .i64 i, .int .i64 t, .int .i64 n, .slice a m cap] 67)).alloc (by simp) (.cells #[.int .i64 rc0.kind, .int .i64 rc0.index, .int .i64 rc0.term, .string rc0.data] 58)
  have L1 := (LsB.new w i t n (.slice a m cap)).below ((Below.refl _ (w.alloc (.cells #[.int .i64 i, .int .i64 t, .int .i64 n, .slice a m cap] 67))).alloc (Nat.le_refl _) (.cells #[.int .i64 rc0.kind, .int .i64 rc0.index, .int .i64 rc0.term, .string rc0.data] 58))
  have R1 := RecB.new (w.alloc (.cells #[.int .i64 i, .int .i64 t, .int .i64 n, .slice a m cap] 67)) rc0
  rw [World.size_alloc] at R1
  unfold rc0 at B1 L1
  simp only at B1 L1
  go_enter Tryd.func79, Tryd.ntmps79
  go_upto_region 1 with fail
  unfold rc0 at R1
  simp only at R1
  generalize (w.alloc (.cells #[.int .i64 i, .int .i64 t, .int .i64 n, .slice a m cap] 67)).alloc (.cells #[.int .i64 0, .int .i64 0, .int .i64 0, .string ⟨#[]⟩] 58) = w1 at L1 R1 B1 ⊢
  obtain ⟨⟨l0, l1, l2, l3⟩, _⟩ := L1.cells
  obtain ⟨⟨r0, r1, r2, r3⟩, q0, q1, q2, q3⟩ := R1.cells
  simp only at r0 r1 r2 r3
  have HR := Lib.hid R1
  clear L1 R1
  go_wp2_with fail
  refine cret79 _ (setRec w1 (w.heap.size + 1) (chunkR i k c)) _ (chunkR i k c) _ rfl rfl (HR.out.set _) ⟨rfl, ?_⟩
  exact (((B1.setCell (p := ⟨w.heap.size + 1, 0, none⟩) (by show w.heap.size ≤ w.heap.size + 1; omega) _).setCell (p := ⟨w.heap.size + 1, 1, none⟩) (by show w.heap.size ≤ w.heap.size + 1; omega) _).setCell (p := ⟨w.heap.size + 1, 2, none⟩) (by show w.heap.size ≤ w.heap.size + 1; omega) _).setCell (p := ⟨w.heap.size + 1, 3, none⟩) (by show w.heap.size ≤ w.heap.size + 1; omega) _
end Go.Proofs.YtiknfifiglooeaaDoor
