/- What fires: triggers, the closures of Fire. No conditions beyond those in each statement. -/
import Derived.Test.YtbbdokfankgllaaDoorWLast
namespace Go.Proofs.YtbbdokfankgllaaDoor
open Go.RowKit Go.Maps Go.Shelf
set_option linter.unusedVariables false
set_option linter.unusedSimpArgs false
set_option maxRecDepth 100000

theorem bq_ne {a b : ByteArray} (h : ¬ a = b) : (a == b) = false := by
  cases e : (a == b)
  · rfl
  · exact absurd ((Go.MapKept.bytes_beq a b).1 e) h
theorem bq_neL {a b : ByteArray} (h : ¬ a = b) : (a.toList == b.toList) = false := by
  rw [← beq_toListBytes]
  exact bq_ne h
/-- Does a change of what at s (a child of up) concern a watch. -/
def trigB (s up : ByteArray) (what : Int) (x : Wa) : Bool := (decide (x.path = s) && (!x.kids || (what == 2))) || (decide (x.path = up) && x.kids && !(what == 3))
/-- The kind it is told as. -/
def trigK (s up : ByteArray) (what : Int) (x : Wa) : Int := if (decide (x.path = s) && (!x.kids || (what == 2))) = true then what else if (decide (x.path = up) && x.kids && !(what == 3)) = true then 4 else 0
set_option maxHeartbeats 8000000 in
theorem trig_any (s up : ByteArray) (what : Int) (sb wb ub : Nat) (x : Wa) (w : World) (h1 : w.cell? ⟨sb, 0, none⟩ = some (.string s)) (h2 : w.cell? ⟨wb, 0, none⟩ = some (.int .i64 what)) (h3 : w.cell? ⟨ub, 0, none⟩ = some (.string up)) :
    Calls Tryd.prog 43 #[waV x, .pointer (some ⟨sb, 0, none⟩), .pointer (some ⟨wb, 0, none⟩), .pointer (some ⟨ub, 0, none⟩)] w fun e w' => e = .returned (.tuple #[.int .i64 (trigK s up what x), .bool (trigB s up what x)]) ∧ Below w.heap.size w w' := by
  have bA := (Below.refl w.heap.size w).alloc (Nat.le_refl _) (.cells #[.int .i64 x.ses, .string x.path, .bool x.kids, .bool x.once] 45)
  have hs : sb < w.heap.size := World.block_lt_of_cell? w _ h1
  have hn : wb < w.heap.size := World.block_lt_of_cell? w _ h2
  have hu : ub < w.heap.size := World.block_lt_of_cell? w _ h3
  have k1 := (bA.cell (p := ⟨sb, 0, none⟩) hs).trans h1
  have k2 := (bA.cell (p := ⟨wb, 0, none⟩) hn).trans h2
  have k3 := (bA.cell (p := ⟨ub, 0, none⟩) hu).trans h3
  unfold waV
  clear hs hn hu h1 h2 h3
  obtain ⟨xs, xp, xk, xo⟩ := x
  have hp : (xp = s ∧ xp = up) ∨ (xp = s ∧ ¬ xp = up) ∨ (¬ xp = s ∧ xp = up) ∨ (¬ xp = s ∧ ¬ xp = up) := by
    by_cases a : xp = s
    · by_cases b : xp = up
      · exact .inl ⟨a, b⟩
      · exact .inr (.inl ⟨a, b⟩)
    · by_cases b : xp = up
      · exact .inr (.inr (.inl ⟨a, b⟩))
      · exact .inr (.inr (.inr ⟨a, b⟩))
  have hw : what = 2 ∨ what = 3 ∨ (¬ what = 2 ∧ ¬ what = 3) := by omega
  rcases hp with ⟨rfl, rfl⟩ | ⟨rfl, n2⟩ | ⟨n1, rfl⟩ | ⟨n1, n2⟩ <;> rcases hw with rfl | rfl | ⟨m1, m2⟩ <;> cases xk
  · go_enter Tryd.func43, Tryd.ntmps43
    go_wp2_with fail
    go_ret2
    exact ⟨by simp [trigB, trigK], bA⟩
  · go_enter Tryd.func43, Tryd.ntmps43
    go_wp2_with fail
    go_ret2
    exact ⟨by simp [trigB, trigK], bA⟩
  · go_enter Tryd.func43, Tryd.ntmps43
    go_wp2_with fail
    go_ret2
    exact ⟨by simp [trigB, trigK], bA⟩
  · go_enter Tryd.func43, Tryd.ntmps43
    go_wp2_with fail
    go_ret2
    exact ⟨by simp [trigB, trigK], bA⟩
  · have q1 : (what == 2) = false := by simp [m1]
    have q2 : (what == 3) = false := by simp [m2]
    have q3 : (what != 3) = true := by simp [m2]
    have Hm1 := Lib.hid m1
    have Hm2 := Lib.hid m2
    clear m1 m2
    go_enter Tryd.func43, Tryd.ntmps43
    go_wp2_with fail
    go_ret2
    have m1 := Hm1.out
    have m2 := Hm2.out
    exact ⟨by simp [trigB, trigK, m1, m2], bA⟩
  · have q1 : (what == 2) = false := by simp [m1]
    have q2 : (what == 3) = false := by simp [m2]
    have q3 : (what != 3) = true := by simp [m2]
    have Hm1 := Lib.hid m1
    have Hm2 := Lib.hid m2
    clear m1 m2
    go_enter Tryd.func43, Tryd.ntmps43
    go_wp2_with fail
    go_ret2
    have m1 := Hm1.out
    have m2 := Hm2.out
    exact ⟨by simp [trigB, trigK, m1, m2], bA⟩
  · have l2 : (xp.toList == up.toList) = false := bq_neL n2
    have Hn2 := Lib.hid n2
    clear n2
    go_enter Tryd.func43, Tryd.ntmps43
    go_wp2_with fail
    go_ret2
    have n2 := Hn2.out
    exact ⟨by simp [trigB, trigK, n2], bA⟩
  · have l2 : (xp.toList == up.toList) = false := bq_neL n2
    have Hn2 := Lib.hid n2
    clear n2
    go_enter Tryd.func43, Tryd.ntmps43
    go_wp2_with fail
    go_ret2
    have n2 := Hn2.out
    exact ⟨by simp [trigB, trigK, n2], bA⟩
  · have l2 : (xp.toList == up.toList) = false := bq_neL n2
    have Hn2 := Lib.hid n2
    clear n2
    go_enter Tryd.func43, Tryd.ntmps43
    go_wp2_with fail
    go_ret2
    have n2 := Hn2.out
    exact ⟨by simp [trigB, trigK, n2], bA⟩
  · have l2 : (xp.toList == up.toList) = false := bq_neL n2
    have Hn2 := Lib.hid n2
    clear n2
    go_enter Tryd.func43, Tryd.ntmps43
    go_wp2_with fail
    go_ret2
    have n2 := Hn2.out
    exact ⟨by simp [trigB, trigK, n2], bA⟩
  · have l2 : (xp.toList == up.toList) = false := bq_neL n2
    have q1 : (what == 2) = false := by simp [m1]
    have q2 : (what == 3) = false := by simp [m2]
    have q3 : (what != 3) = true := by simp [m2]
    have Hn2 := Lib.hid n2
    have Hm1 := Lib.hid m1
    have Hm2 := Lib.hid m2
    clear n2 m1 m2
    go_enter Tryd.func43, Tryd.ntmps43
    go_wp2_with fail
    go_ret2
    have n2 := Hn2.out
    have m1 := Hm1.out
    have m2 := Hm2.out
    exact ⟨by simp [trigB, trigK, n2, m1, m2], bA⟩
  · have l2 : (xp.toList == up.toList) = false := bq_neL n2
    have q1 : (what == 2) = false := by simp [m1]
    have q2 : (what == 3) = false := by simp [m2]
    have q3 : (what != 3) = true := by simp [m2]
    have Hn2 := Lib.hid n2
    have Hm1 := Lib.hid m1
    have Hm2 := Lib.hid m2
    clear n2 m1 m2
    go_enter Tryd.func43, Tryd.ntmps43
    go_wp2_with fail
    go_ret2
    have n2 := Hn2.out
    have m1 := Hm1.out
    have m2 := Hm2.out
    exact ⟨by simp [trigB, trigK, n2, m1, m2], bA⟩
  · have l1 : (xp.toList == s.toList) = false := bq_neL n1
    have Hn1 := Lib.hid n1
    clear n1
    go_enter Tryd.func43, Tryd.ntmps43
    go_wp2_with fail
    go_ret2
    have n1 := Hn1.out
    exact ⟨by simp [trigB, trigK, n1], bA⟩
  · have l1 : (xp.toList == s.toList) = false := bq_neL n1
    have Hn1 := Lib.hid n1
    clear n1
    go_enter Tryd.func43, Tryd.ntmps43
    go_wp2_with fail
    go_ret2
    have n1 := Hn1.out
    exact ⟨by simp [trigB, trigK, n1], bA⟩
  · have l1 : (xp.toList == s.toList) = false := bq_neL n1
    have Hn1 := Lib.hid n1
    clear n1
    go_enter Tryd.func43, Tryd.ntmps43
    go_wp2_with fail
    go_ret2
    have n1 := Hn1.out
    exact ⟨by simp [trigB, trigK, n1], bA⟩
  · have l1 : (xp.toList == s.toList) = false := bq_neL n1
    have Hn1 := Lib.hid n1
    clear n1
    go_enter Tryd.func43, Tryd.ntmps43
    go_wp2_with fail
    go_ret2
    have n1 := Hn1.out
    exact ⟨by simp [trigB, trigK, n1], bA⟩
  · have l1 : (xp.toList == s.toList) = false := bq_neL n1
    have q1 : (what == 2) = false := by simp [m1]
    have q2 : (what == 3) = false := by simp [m2]
    have q3 : (what != 3) = true := by simp [m2]
    have Hn1 := Lib.hid n1
    have Hm1 := Lib.hid m1
    have Hm2 := Lib.hid m2
    clear n1 m1 m2
    go_enter Tryd.func43, Tryd.ntmps43
    go_wp2_with fail
    go_ret2
    have n1 := Hn1.out
    have m1 := Hm1.out
    have m2 := Hm2.out
    exact ⟨by simp [trigB, trigK, n1, m1, m2], bA⟩
  · have l1 : (xp.toList == s.toList) = false := bq_neL n1
    have q1 : (what == 2) = false := by simp [m1]
    have q2 : (what == 3) = false := by simp [m2]
    have q3 : (what != 3) = true := by simp [m2]
    have Hn1 := Lib.hid n1
    have Hm1 := Lib.hid m1
    have Hm2 := Lib.hid m2
    clear n1 m1 m2
    go_enter Tryd.func43, Tryd.ntmps43
    go_wp2_with fail
    go_ret2
    have n1 := Hn1.out
    have m1 := Hm1.out
    have m2 := Hm2.out
    exact ⟨by simp [trigB, trigK, n1, m1, m2], bA⟩
  · have l2 : (xp.toList == up.toList) = false := bq_neL n2
    have l1 : (xp.toList == s.toList) = false := bq_neL n1
    have Hn2 := Lib.hid n2
    have Hn1 := Lib.hid n1
    clear n2 n1
    go_enter Tryd.func43, Tryd.ntmps43
    go_wp2_with fail
    go_ret2
    have n2 := Hn2.out
    have n1 := Hn1.out
    exact ⟨by simp [trigB, trigK, n2, n1], bA⟩
  · have l2 : (xp.toList == up.toList) = false := bq_neL n2
    have l1 : (xp.toList == s.toList) = false := bq_neL n1
    have Hn2 := Lib.hid n2
    have Hn1 := Lib.hid n1
    clear n2 n1
    go_enter Tryd.func43, Tryd.ntmps43
    go_wp2_with fail
    go_ret2
    have n2 := Hn2.out
    have n1 := Hn1.out
    exact ⟨by simp [trigB, trigK, n2, n1], bA⟩
  · have l2 : (xp.toList == up.toList) = false := bq_neL n2
    have l1 : (xp.toList == s.toList) = false := bq_neL n1
    have Hn2 := Lib.hid n2
    have Hn1 := Lib.hid n1
    clear n2 n1
    go_enter Tryd.func43, Tryd.ntmps43
    go_wp2_with fail
    go_ret2
    have n2 := Hn2.out
    have n1 := Hn1.out
    exact ⟨by simp [trigB, trigK, n2, n1], bA⟩
  · have l2 : (xp.toList == up.toList) = false := bq_neL n2
    have l1 : (xp.toList == s.toList) = false := bq_neL n1
    have Hn2 := Lib.hid n2
    have Hn1 := Lib.hid n1
    clear n2 n1
    go_enter Tryd.func43, Tryd.ntmps43
    go_wp2_with fail
    go_ret2
    have n2 := Hn2.out
    have n1 := Hn1.out
    exact ⟨by simp [trigB, trigK, n2, n1], bA⟩
  · have l2 : (xp.toList == up.toList) = false := bq_neL n2
    have l1 : (xp.toList == s.toList) = false := bq_neL n1
    have q1 : (what == 2) = false := by simp [m1]
    have q2 : (what == 3) = false := by simp [m2]
    have q3 : (what != 3) = true := by simp [m2]
    have Hn2 := Lib.hid n2
    have Hn1 := Lib.hid n1
    have Hm1 := Lib.hid m1
    have Hm2 := Lib.hid m2
    clear n2 n1 m1 m2
    go_enter Tryd.func43, Tryd.ntmps43
    go_wp2_with fail
    go_ret2
    have n2 := Hn2.out
    have n1 := Hn1.out
    have m1 := Hm1.out
    have m2 := Hm2.out
    exact ⟨by simp [trigB, trigK, n2, n1, m1, m2], bA⟩
  · have l2 : (xp.toList == up.toList) = false := bq_neL n2
    have l1 : (xp.toList == s.toList) = false := bq_neL n1
    have q1 : (what == 2) = false := by simp [m1]
    have q2 : (what == 3) = false := by simp [m2]
    have q3 : (what != 3) = true := by simp [m2]
    have Hn2 := Lib.hid n2
    have Hn1 := Lib.hid n1
    have Hm1 := Lib.hid m1
    have Hm2 := Lib.hid m2
    clear n2 n1 m1 m2
    go_enter Tryd.func43, Tryd.ntmps43
    go_wp2_with fail
    go_ret2
    have n2 := Hn2.out
    have n1 := Hn1.out
    have m1 := Hm1.out
    have m2 := Hm2.out
    exact ⟨by simp [trigB, trigK, n2, n1, m1, m2], bA⟩
end Go.Proofs.YtbbdokfankgllaaDoor
