/- Records that came in; the document's example (head of layer 4). No conditions beyond those in each statement. -/
import Derived.Test.YtiknfifiglooeaaDoorSlotDev
import Derived.Lib.SmallJoins
import Derived.DataShut
namespace Go.Proofs.YtiknfifiglooeaaDoor
open Go.ChangeShapes Go.WideShapes Go.ChangeAt Go.RowKit
open Go.ChangeMaps (open_string shut_string)
set_option linter.unusedVariables false
set_option maxRecDepth 100000

theorem i64_wf {n : Int} (h : (Lit.int .i64 n).wf = true) : -9223372036854775808 ≤ n ∧ n ≤ 9223372036854775807 := by
  have := (Lit.wf_int_iff .i64 n).1 h
  rwa [show IntKind.i64.min = -9223372036854775808 by decide, show IntKind.i64.max = 9223372036854775807 by decide] at this
section
variable {H : Type} {enc : TypeId × Value → H} {W : World} {base b0 : Nat} {spare : Nat → Bool} {held : Bool} {v : Value} {d : DataW H} {p : List MemPlace}
theorem rec_of (hv : Value.okWide Tryd.prog W .any b0 58 v) (h : DataW.Trod enc Tryd.prog W base spare held 58 v d p) : ∃ r : Rc, v = recV r ∧ r.Fits := by
  obtain ⟨v0, v1, v2, v3, y0, y1, y2, y3, n, rfl, rfl, rfl, h0, h1, h2, h3⟩ := Joins.open_agg4 Tryd.underlying58 (by kernel_rfl) (by kernel_rfl) hv h
  obtain ⟨k, hk, _, wk⟩ := DataW.trod_int Tryd.underlying3 h0
  obtain ⟨i, hi, _, wi⟩ := DataW.trod_int Tryd.underlying3 h1
  obtain ⟨t, ht, _, wt⟩ := DataW.trod_int Tryd.underlying3 h2
  obtain ⟨s, hs, _, ws⟩ := DataW.trod_string Tryd.underlying9 h3
  obtain rfl := List.head_eq_of_cons_eq hk
  obtain rfl := List.head_eq_of_cons_eq hi
  obtain rfl := List.head_eq_of_cons_eq ht
  obtain rfl := List.head_eq_of_cons_eq hs
  exact ⟨⟨k, i, t, s⟩, rfl, ⟨i64_wf wk, i64_wf wi, i64_wf wt, ws⟩⟩
end

/-- Two records compared. -/
theorem eq_rec (a b : Rc) (B : Bool) (hB : B = true ↔ a = b) (W : World) : (binOp .eql 58 (recV a) (recV b)).run Tryd.prog W = .ok (.bool B) W := by
  obtain ⟨k, i, t, d⟩ := a
  obtain ⟨k', i', t', d'⟩ := b
  have hF : ¬ ((⟨k, i, t, d⟩ : Rc) = ⟨k', i', t', d'⟩) → B = false := fun h => by rw [← Bool.not_eq_true, hB]; exact h
  unfold recV
  by_cases h1 : k = k'
  · by_cases h2 : i = i'
    · by_cases h3 : t = t'
      · by_cases h4 : d = d'
        · subst h1 h2 h3 h4
          rw [hB.2 rfl]
          simp [go_sem]
        · have h4' : (d.toList == d'.toList) = false := by
            rw [beq_eq_false_iff_ne, ByteArray.toList_eq, ByteArray.toList_eq]
            exact fun e => h4 (ByteArray.ext (Array.toList_inj.1 e))
          subst h1 h2 h3
          rw [hF (fun e => h4 (Rc.mk.inj e).2.2.2)]
          simp [go_sem, h4']
      · subst h1 h2
        rw [hF (fun e => h3 (Rc.mk.inj e).2.2.1)]
        simp [go_sem, h3]
    · subst h1
      rw [hF (fun e => h2 (Rc.mk.inj e).2.1)]
      simp [go_sem, h2]
  · rw [hF (fun e => h1 (Rc.mk.inj e).1)]
    simp [go_sem, h1]
/-- A record is not unlike itself. -/
theorem eq_recn (a : Rc) (W : World) : (binOp .neq 58 (.agg #[.int .i64 a.kind, .int .i64 a.index, .int .i64 a.term, .string a.data]) (.agg #[.int .i64 a.kind, .int .i64 a.index, .int .i64 a.term, .string a.data])).run Tryd.prog W = .ok (.bool false) W := by
  simp [go_sem]
theorem eq_recs (a : Rc) (W : World) : (binOp .eql 58 (.agg #[.int .i64 a.kind, .int .i64 a.index, .int .i64 a.term, .string a.data]) (.agg #[.int .i64 a.kind, .int .i64 a.index, .int .i64 a.term, .string a.data])).run Tryd.prog W = .ok (.bool true) W := by
  simp [go_sem]
theorem str_eq (x y : ByteArray) (B : Bool) (hB : B = true ↔ x = y) : (x.toList == y.toList) = B := by
  rw [Bool.eq_iff_iff, hB, beq_iff_eq, ByteArray.toList_eq, ByteArray.toList_eq]
  exact ⟨fun e => ByteArray.ext (Array.toList_inj.1 e), fun e => by rw [e]⟩

end Go.Proofs.YtiknfifiglooeaaDoor
