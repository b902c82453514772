/- head's arguments of a law: a head as four numbers; right. No conditions beyond those in each statement. -/
import Derived.Test.YtpjbkeheemhlnaaDoorSlotArgs
import Derived.Test.YtpjbkeheemhlnaaDoorHeadOf
namespace Go.Proofs.YtpjbkeheemhlnaaDoor
open Go.RowKit
set_option linter.unusedVariables false
set_option maxRecDepth 100000
section
variable {H : Type} {enc : TypeId × Value → H} {W : World} {base b0 : Nat} {spare : Nat → Bool} {held : Bool} {v : Value} {d : DataW H} {p : List MemPlace}
theorem hd_of (hv : Value.okWide Tryd.prog W .any b0 23 v) (h : DataW.Trod enc Tryd.prog W base spare held 23 v d p) : ∃ h : Hd, v = headV h ∧ h.Fits := by
  obtain ⟨v0, v1, v2, v3, y0, y1, y2, y3, n, rfl, rfl, rfl, h0, h1, h2, h3⟩ := Joins.open_agg4 Tryd.underlying23 (by kernel_rfl) (by kernel_rfl) hv h
  obtain ⟨k, hk, _, wk⟩ := DataW.trod_int Tryd.underlying3 h0
  obtain ⟨i, hi, _, wi⟩ := DataW.trod_int Tryd.underlying3 h1
  obtain ⟨t, ht, _, wt⟩ := DataW.trod_int Tryd.underlying3 h2
  obtain ⟨s, hs, _, ws⟩ := DataW.trod_int Tryd.underlying3 h3
  obtain rfl := List.head_eq_of_cons_eq hk
  obtain rfl := List.head_eq_of_cons_eq hi
  obtain rfl := List.head_eq_of_cons_eq ht
  obtain rfl := List.head_eq_of_cons_eq hs
  exact ⟨⟨k, i, t, s⟩, rfl, ⟨i64_wf wk, i64_wf wi, i64_wf wt, i64_wf ws⟩⟩
end
set_option maxHeartbeats 4000000 in
theorem right_any (h : Hd) (w : World) (BQ : Bool) (hB : BQ = true ↔ h.Ok) :
    Calls Tryd.prog 16 #[headV h] w fun e w' => e = .returned (.bool BQ) ∧ Below w.heap.size w w' := by
  have n0 := HdB.new w h
  obtain ⟨⟨c0, c1, c2, c3⟩, _⟩ := n0.cells
  have b0 := (Below.refl _ w).alloc (Nat.le_refl _) (.cells #[.int .i64 h.term, .int .i64 h.vote, .int .i64 h.first, .int .i64 h.base] 23)
  unfold headV
  by_cases hq : h.base ≤ 281474976710655
  · have eq : decide (h.base ≤ 281474976710655) = true := by simpa using hq
    go_enter Tryd.func16, Tryd.ntmps16
    go_wp2
    all_goals
      go_ret
      refine ⟨?_, b0⟩
      first
        | (have ho : h.Ok := ⟨by omega, by omega, by omega, by omega⟩
           rw [hB.2 ho]
           try rfl)
        | (have ho : ¬ h.Ok := fun o => by
             have o1 := o.term
             have o2 := o.vote
             have o3 := o.first
             have o4 := o.base
             omega
           rw [show BQ = false by rw [← Bool.not_eq_true, hB]; exact ho]
           try rfl)
  · have eq : decide (h.base ≤ 281474976710655) = false := by simpa using hq
    go_enter Tryd.func16, Tryd.ntmps16
    go_wp2
    all_goals
      go_ret
      refine ⟨?_, b0⟩
      first
        | (have ho : h.Ok := ⟨by omega, by omega, by omega, by omega⟩
           rw [hB.2 ho]
           try rfl)
        | (have ho : ¬ h.Ok := fun o => by
             have o1 := o.term
             have o2 := o.vote
             have o3 := o.first
             have o4 := o.base
             omega
           rw [show BQ = false by rw [← Bool.not_eq_true, hB]; exact ho]
           try rfl)

end Go.Proofs.YtpjbkeheemhlnaaDoor
