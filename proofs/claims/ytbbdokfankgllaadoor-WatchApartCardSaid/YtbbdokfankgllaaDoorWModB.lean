/- The law's closures and before. No conditions beyond those in each statement. -/
import Derived.Test.YtbbdokfankgllaaDoorWMod
namespace Go.Proofs.YtbbdokfankgllaaDoor
open Go.RowKit Go.Maps
set_option linter.unusedVariables false
set_option linter.unusedSimpArgs false
set_option maxRecDepth 100000

theorem mdrope_any (s : Int) (sb : Nat) (x : Ev) (w : World) (h1 : w.cell? ⟨sb, 0, none⟩ = some (.int .i64 s)) :
    Calls Tryd.prog 42 #[evV x, .pointer (some ⟨sb, 0, none⟩)] w fun e w' => e = .returned (.bool (x.ses == s)) ∧ Below w.heap.size w w' := by
  have bA := (Below.refl w.heap.size w).alloc (Nat.le_refl _) (.cells #[.int .i64 x.ses, .int .i64 x.no, .string x.path, .int .i64 x.what, .int .i64 x.when] 50)
  have hs : sb < w.heap.size := World.block_lt_of_cell? w _ h1
  have k1 := (bA.cell (p := ⟨sb, 0, none⟩) hs).trans h1
  unfold evV
  go_enter Tryd.func42, Tryd.ntmps42
  go_wp2_with fail
  go_ret
  exact ⟨rfl, bA⟩
set_option maxHeartbeats 4000000 in
theorem before_any (x y : Wa) (w : World) : Calls Tryd.prog 40 #[waV x, waV y] w fun e w' => e = .returned (.bool (decide (orderF x y < 0))) ∧ Below w.heap.size w w' := by
  have b1 := (Below.refl w.heap.size w).alloc (Nat.le_refl _) (.cells #[.int .i64 x.ses, .string x.path, .bool x.kids, .bool x.once] 45)
  have b2 := b1.alloc b1.size (.cells #[.int .i64 y.ses, .string y.path, .bool y.kids, .bool y.once] 45)
  have HB := Lib.hid b2
  have hdec : ∀ r : Bool, (r = true ↔ LtW x y) → decide (orderF x y < 0) = r := fun r h => by
    have h2 := @orderF_lt x y
    cases r with
    | true => exact decide_eq_true (h2.2 (h.1 rfl))
    | false => exact decide_eq_false (fun e => by have := h.2 (h2.1 e); cases this)
  obtain ⟨xs, xp, xk, xo⟩ := x
  obtain ⟨ys, yp, yk, yo⟩ := y
  simp only [LtW] at hdec
  have HD := Lib.hid hdec
  clear hdec b1 b2
  unfold waV
  simp only at HB ⊢
  by_cases h1 : xs = ys
  · subst h1
    have e1 : (xs == xs) = true := by simp
    by_cases h2 : xp.data.toList = yp.data.toList
    · obtain rfl := baq h2
      have e2 : (xp.toList == xp.toList) = true := by simp
      have HR : Hid (decide (orderF ⟨xs, xp, xk, xo⟩ ⟨xs, xp, yk, yo⟩ < 0) = if xk = yk then !xo && yo else yk) := Lib.hid (HD.out _ (by
        cases xk <;> cases yk <;> cases xo <;> cases yo <;> simp [List.lt_irrefl]))
      clear HD h2
      cases xk <;> cases yk <;> cases xo <;> cases yo <;>
      · go_enter Tryd.func40, Tryd.ntmps40
        go_wp2_with fail
        go_ret
        rw [HR.out]
        exact ⟨rfl, HB.out⟩
    · have e2 : (xp.toList == yp.toList) = false := by rw [Lib.toList_data, Lib.toList_data]; simpa using h2
      obtain ⟨r, hr⟩ : ∃ r, r = Op.bytesLess xp.toList yp.toList := ⟨_, rfl⟩
      have hr2 := hr
      rw [Lib.toList_data, Lib.toList_data, bytesLess_eq] at hr2
      have HR := Lib.hid (HD.out r (by
        rw [hr2]
        have : xp ≠ yp := fun e => h2 (by rw [e])
        simp [this]))
      have hr3 := hr.symm
      clear HD h2 hr hr2
      go_enter Tryd.func40, Tryd.ntmps40
      go_wp2_with fail
      go_ret
      rw [HR.out]
      exact ⟨rfl, HB.out⟩
  · have e1 : (xs == ys) = false := by simpa using h1
    obtain ⟨r, hr⟩ : ∃ r, r = decide (xs < ys) := ⟨_, rfl⟩
    have HR := Lib.hid (HD.out r (by rw [hr]; simp [h1]))
    have hr3 := hr.symm
    clear HD h1 hr
    go_enter Tryd.func40, Tryd.ntmps40
    go_wp2_with fail
    go_ret
    rw [HR.out]
    exact ⟨rfl, HB.out⟩
end Go.Proofs.YtbbdokfankgllaaDoor
