/- What fires: triggers, the closures of Fire. No conditions beyond those in each statement. triggers; the closure of Fire. No conditions beyond those in each statement. What Fire leaves, said without memory. No conditions beyond those in each statement. -/
import Derived.Test.YtbbdokfankgllaaGreatDoorWLast
namespace Go.Proofs.YtbbdokfankgllaaGreatDoor
section
open Go.RowKit Go.Maps Go.Shelf
set_option linter.unusedVariables false
set_option linter.unusedSimpArgs false
set_option maxRecDepth 100000

theorem bq_ne {a b : ByteArray} (h : ¬ a = b) : (a == b) = false := by
  cases e : (a == b)
  · rfl
  · exact absurd ((Go.MapKept.bytes_beq a b).1 e) h
theorem bq_neL {a b : ByteArray} (h : ¬ a = b) : (a.toList == b.toList) = false := by
  rw [← beq_toListBytes]
  exact bq_ne h
/-- Does a change of what at s (a child of up) concern a watch. -/
def trigB (s up : ByteArray) (what : Int) (x : Wa) : Bool := (decide (x.path = s) && (!x.kids || (what == 2))) || (decide (x.path = up) && x.kids && !(what == 3))
/-- The kind it is told as. -/
def trigK (s up : ByteArray) (what : Int) (x : Wa) : Int := if (decide (x.path = s) && (!x.kids || (what == 2))) = true then what else if (decide (x.path = up) && x.kids && !(what == 3)) = true then 4 else 0
set_option maxHeartbeats 8000000 in
theorem trig_any (s up : ByteArray) (what : Int) (sb wb ub : Nat) (x : Wa) (w : World) (h1 : w.cell? ⟨sb, 0, none⟩ = some (.string s)) (h2 : w.cell? ⟨wb, 0, none⟩ = some (.int .i64 what)) (h3 : w.cell? ⟨ub, 0, none⟩ = some (.string up)) :
    Calls Tryz.prog 74 #[waV x, .pointer (some ⟨sb, 0, none⟩), .pointer (some ⟨wb, 0, none⟩), .pointer (some ⟨ub, 0, none⟩)] w fun e w' => e = .returned (.tuple #[.int .i64 (trigK s up what x), .bool (trigB s up what x)]) ∧ Below w.heap.size w w' := by
  have bA := (Below.refl w.heap.size w).alloc (Nat.le_refl _) (.cells #[.int .i64 x.ses, .string x.path, .bool x.kids, .bool x.once] 49)
  have hs : sb < w.heap.size := World.block_lt_of_cell? w _ h1
  have hn : wb < w.heap.size := World.block_lt_of_cell? w _ h2
  have hu : ub < w.heap.size := World.block_lt_of_cell? w _ h3
  have k1 := (bA.cell (p := ⟨sb, 0, none⟩) hs).trans h1
  have k2 := (bA.cell (p := ⟨wb, 0, none⟩) hn).trans h2
  have k3 := (bA.cell (p := ⟨ub, 0, none⟩) hu).trans h3
  unfold waV
  clear hs hn hu h1 h2 h3
  obtain ⟨xs, xp, xk, xo⟩ := x
  have hp : (xp = s ∧ xp = up) ∨ (xp = s ∧ ¬ xp = up) ∨ (¬ xp = s ∧ xp = up) ∨ (¬ xp = s ∧ ¬ xp = up) := by
    by_cases a : xp = s
    · by_cases b : xp = up
      · exact .inl ⟨a, b⟩
      · exact .inr (.inl ⟨a, b⟩)
    · by_cases b : xp = up
      · exact .inr (.inr (.inl ⟨a, b⟩))
      · exact .inr (.inr (.inr ⟨a, b⟩))
  have hw : what = 2 ∨ what = 3 ∨ (¬ what = 2 ∧ ¬ what = 3) := by omega
  rcases hp with ⟨rfl, rfl⟩ | ⟨rfl, n2⟩ | ⟨n1, rfl⟩ | ⟨n1, n2⟩ <;> rcases hw with rfl | rfl | ⟨m1, m2⟩ <;> cases xk
  · go_enter Tryz.func74, Tryz.ntmps74
    go_wp2_with fail
    go_ret2
    exact ⟨by simp [trigB, trigK], bA⟩
  · go_enter Tryz.func74, Tryz.ntmps74
    go_wp2_with fail
    go_ret2
    exact ⟨by simp [trigB, trigK], bA⟩
  · go_enter Tryz.func74, Tryz.ntmps74
    go_wp2_with fail
    go_ret2
    exact ⟨by simp [trigB, trigK], bA⟩
  · go_enter Tryz.func74, Tryz.ntmps74
    go_wp2_with fail
    go_ret2
    exact ⟨by simp [trigB, trigK], bA⟩
  · have q1 : (what == 2) = false := by simp [m1]
    have q2 : (what == 3) = false := by simp [m2]
    have q3 : (what != 3) = true := by simp [m2]
    have Hm1 := Lib.hid m1
    have Hm2 := Lib.hid m2
    clear m1 m2
    go_enter Tryz.func74, Tryz.ntmps74
    go_wp2_with fail
    go_ret2
    have m1 := Hm1.out
    have m2 := Hm2.out
    exact ⟨by simp [trigB, trigK, m1, m2], bA⟩
  · have q1 : (what == 2) = false := by simp [m1]
    have q2 : (what == 3) = false := by simp [m2]
    have q3 : (what != 3) = true := by simp [m2]
    have Hm1 := Lib.hid m1
    have Hm2 := Lib.hid m2
    clear m1 m2
    go_enter Tryz.func74, Tryz.ntmps74
    go_wp2_with fail
    go_ret2
    have m1 := Hm1.out
    have m2 := Hm2.out
    exact ⟨by simp [trigB, trigK, m1, m2], bA⟩
  · have l2 : (xp.toList == up.toList) = false := bq_neL n2
    have Hn2 := Lib.hid n2
    clear n2
    go_enter Tryz.func74, Tryz.ntmps74
    go_wp2_with fail
    go_ret2
    have n2 := Hn2.out
    exact ⟨by simp [trigB, trigK, n2], bA⟩
  · have l2 : (xp.toList == up.toList) = false := bq_neL n2
    have Hn2 := Lib.hid n2
    clear n2
    go_enter Tryz.func74, Tryz.ntmps74
    go_wp2_with fail
    go_ret2
    have n2 := Hn2.out
    exact ⟨by simp [trigB, trigK, n2], bA⟩
  · have l2 : (xp.toList == up.toList) = false := bq_neL n2
    have Hn2 := Lib.hid n2
    clear n2
    go_enter Tryz.func74, Tryz.ntmps74
    go_wp2_with fail
    go_ret2
    have n2 := Hn2.out
    exact ⟨by simp [trigB, trigK, n2], bA⟩
  · have l2 : (xp.toList == up.toList) = false := bq_neL n2
    have Hn2 := Lib.hid n2
    clear n2
    go_enter Tryz.func74, Tryz.ntmps74
    go_wp2_with fail
    go_ret2
    have n2 := Hn2.out
    exact ⟨by simp [trigB, trigK, n2], bA⟩
  · have l2 : (xp.toList == up.toList) = false := bq_neL n2
    have q1 : (what == 2) = false := by simp [m1]
    have q2 : (what == 3) = false := by simp [m2]
    have q3 : (what != 3) = true := by simp [m2]
    have Hn2 := Lib.hid n2
    have Hm1 := Lib.hid m1
    have Hm2 := Lib.hid m2
    clear n2 m1 m2
    go_enter Tryz.func74, Tryz.ntmps74
    go_wp2_with fail
    go_ret2
    have n2 := Hn2.out
    have m1 := Hm1.out
    have m2 := Hm2.out
    exact ⟨by simp [trigB, trigK, n2, m1, m2], bA⟩
  · have l2 : (xp.toList == up.toList) = false := bq_neL n2
    have q1 : (what == 2) = false := by simp [m1]
    have q2 : (what == 3) = false := by simp [m2]
    have q3 : (what != 3) = true := by simp [m2]
    have Hn2 := Lib.hid n2
    have Hm1 := Lib.hid m1
    have Hm2 := Lib.hid m2
    clear n2 m1 m2
    go_enter Tryz.func74, Tryz.ntmps74
    go_wp2_with fail
    go_ret2
    have n2 := Hn2.out
    have m1 := Hm1.out
    have m2 := Hm2.out
    exact ⟨by simp [trigB, trigK, n2, m1, m2], bA⟩
  · have l1 : (xp.toList == s.toList) = false := bq_neL n1
    have Hn1 := Lib.hid n1
    clear n1
    go_enter Tryz.func74, Tryz.ntmps74
    go_wp2_with fail
    go_ret2
    have n1 := Hn1.out
    exact ⟨by simp [trigB, trigK, n1], bA⟩
  · have l1 : (xp.toList == s.toList) = false := bq_neL n1
    have Hn1 := Lib.hid n1
    clear n1
    go_enter Tryz.func74, Tryz.ntmps74
    go_wp2_with fail
    go_ret2
    have n1 := Hn1.out
    exact ⟨by simp [trigB, trigK, n1], bA⟩
  · have l1 : (xp.toList == s.toList) = false := bq_neL n1
    have Hn1 := Lib.hid n1
    clear n1
    go_enter Tryz.func74, Tryz.ntmps74
    go_wp2_with fail
    go_ret2
    have n1 := Hn1.out
    exact ⟨by simp [trigB, trigK, n1], bA⟩
  · have l1 : (xp.toList == s.toList) = false := bq_neL n1
    have Hn1 := Lib.hid n1
    clear n1
    go_enter Tryz.func74, Tryz.ntmps74
    go_wp2_with fail
    go_ret2
    have n1 := Hn1.out
    exact ⟨by simp [trigB, trigK, n1], bA⟩
  · have l1 : (xp.toList == s.toList) = false := bq_neL n1
    have q1 : (what == 2) = false := by simp [m1]
    have q2 : (what == 3) = false := by simp [m2]
    have q3 : (what != 3) = true := by simp [m2]
    have Hn1 := Lib.hid n1
    have Hm1 := Lib.hid m1
    have Hm2 := Lib.hid m2
    clear n1 m1 m2
    go_enter Tryz.func74, Tryz.ntmps74
    go_wp2_with fail
    go_ret2
    have n1 := Hn1.out
    have m1 := Hm1.out
    have m2 := Hm2.out
    exact ⟨by simp [trigB, trigK, n1, m1, m2], bA⟩
  · have l1 : (xp.toList == s.toList) = false := bq_neL n1
    have q1 : (what == 2) = false := by simp [m1]
    have q2 : (what == 3) = false := by simp [m2]
    have q3 : (what != 3) = true := by simp [m2]
    have Hn1 := Lib.hid n1
    have Hm1 := Lib.hid m1
    have Hm2 := Lib.hid m2
    clear n1 m1 m2
    go_enter Tryz.func74, Tryz.ntmps74
    go_wp2_with fail
    go_ret2
    have n1 := Hn1.out
    have m1 := Hm1.out
    have m2 := Hm2.out
    exact ⟨by simp [trigB, trigK, n1, m1, m2], bA⟩
  · have l2 : (xp.toList == up.toList) = false := bq_neL n2
    have l1 : (xp.toList == s.toList) = false := bq_neL n1
    have Hn2 := Lib.hid n2
    have Hn1 := Lib.hid n1
    clear n2 n1
    go_enter Tryz.func74, Tryz.ntmps74
    go_wp2_with fail
    go_ret2
    have n2 := Hn2.out
    have n1 := Hn1.out
    exact ⟨by simp [trigB, trigK, n2, n1], bA⟩
  · have l2 : (xp.toList == up.toList) = false := bq_neL n2
    have l1 : (xp.toList == s.toList) = false := bq_neL n1
    have Hn2 := Lib.hid n2
    have Hn1 := Lib.hid n1
    clear n2 n1
    go_enter Tryz.func74, Tryz.ntmps74
    go_wp2_with fail
    go_ret2
    have n2 := Hn2.out
    have n1 := Hn1.out
    exact ⟨by simp [trigB, trigK, n2, n1], bA⟩
  · have l2 : (xp.toList == up.toList) = false := bq_neL n2
    have l1 : (xp.toList == s.toList) = false := bq_neL n1
    have Hn2 := Lib.hid n2
    have Hn1 := Lib.hid n1
    clear n2 n1
    go_enter Tryz.func74, Tryz.ntmps74
    go_wp2_with fail
    go_ret2
    have n2 := Hn2.out
    have n1 := Hn1.out
    exact ⟨by simp [trigB, trigK, n2, n1], bA⟩
  · have l2 : (xp.toList == up.toList) = false := bq_neL n2
    have l1 : (xp.toList == s.toList) = false := bq_neL n1
    have Hn2 := Lib.hid n2
    have Hn1 := Lib.hid n1
    clear n2 n1
    go_enter Tryz.func74, Tryz.ntmps74
    go_wp2_with fail
    go_ret2
    have n2 := Hn2.out
    have n1 := Hn1.out
    exact ⟨by simp [trigB, trigK, n2, n1], bA⟩
  · have l2 : (xp.toList == up.toList) = false := bq_neL n2
    have l1 : (xp.toList == s.toList) = false := bq_neL n1
    have q1 : (what == 2) = false := by simp [m1]
    have q2 : (what == 3) = false := by simp [m2]
    have q3 : (what != 3) = true := by simp [m2]
    have Hn2 := Lib.hid n2
    have Hn1 := Lib.hid n1
    have Hm1 := Lib.hid m1
    have Hm2 := Lib.hid m2
    clear n2 n1 m1 m2
    go_enter Tryz.func74, Tryz.ntmps74
    go_wp2_with fail
    go_ret2
    have n2 := Hn2.out
    have n1 := Hn1.out
    have m1 := Hm1.out
    have m2 := Hm2.out
    exact ⟨by simp [trigB, trigK, n2, n1, m1, m2], bA⟩
  · have l2 : (xp.toList == up.toList) = false := bq_neL n2
    have l1 : (xp.toList == s.toList) = false := bq_neL n1
    have q1 : (what == 2) = false := by simp [m1]
    have q2 : (what == 3) = false := by simp [m2]
    have q3 : (what != 3) = true := by simp [m2]
    have Hn2 := Lib.hid n2
    have Hn1 := Lib.hid n1
    have Hm1 := Lib.hid m1
    have Hm2 := Lib.hid m2
    clear n2 n1 m1 m2
    go_enter Tryz.func74, Tryz.ntmps74
    go_wp2_with fail
    go_ret2
    have n2 := Hn2.out
    have n1 := Hn1.out
    have m1 := Hm1.out
    have m2 := Hm2.out
    exact ⟨by simp [trigB, trigK, n2, n1, m1, m2], bA⟩
end
section
open Go.RowKit Go.Maps Go.Shelf
set_option linter.unusedVariables false
set_option maxRecDepth 100000

/-- What triggers leaves: three blocks of its own, held by the closure. -/
structure TrigR (w : World) (lo : Nat) (s up : ByteArray) (what : Int) (sb wb ub : Nat) : Prop where
  hs : w.heap[sb]? = some (.cells #[.string s] 9 (0, 0))
  hw : w.heap[wb]? = some (.cells #[.int .i64 what] 51 (0, 0))
  hu : w.heap[ub]? = some (.cells #[.string up] 9 (0, 0))
  los : lo ≤ sb
  low : lo ≤ wb
  lou : lo ≤ ub
section
variable {w w' : World} {lo : Nat} {s up : ByteArray} {what : Int} {sb wb ub : Nat}
theorem TrigR.cs (h : TrigR w lo s up what sb wb ub) : w.cell? ⟨sb, 0, none⟩ = some (.string s) := by simp [World.cell?, h.hs]
theorem TrigR.cw (h : TrigR w lo s up what sb wb ub) : w.cell? ⟨wb, 0, none⟩ = some (.int .i64 what) := by simp [World.cell?, h.hw]
theorem TrigR.cu (h : TrigR w lo s up what sb wb ub) : w.cell? ⟨ub, 0, none⟩ = some (.string up) := by simp [World.cell?, h.hu]
theorem TrigR.kept {t : Option Nat} (h : TrigR w lo s up what sb wb ub) (hg : w.grownBy w' t) (h1 : t ≠ some sb) (h2 : t ≠ some wb) (h3 : t ≠ some ub) : TrigR w' lo s up what sb wb ub :=
  ⟨(hg.block sb (Array.getElem?_eq_some_iff.1 h.hs).1 (fun e => h1 e.symm)).trans h.hs, (hg.block wb (Array.getElem?_eq_some_iff.1 h.hw).1 (fun e => h2 e.symm)).trans h.hw, (hg.block ub (Array.getElem?_eq_some_iff.1 h.hu).1 (fun e => h3 e.symm)).trans h.hu, h.los, h.low, h.lou⟩
theorem TrigR.below (h : TrigR w lo s up what sb wb ub) (hb : Below w.heap.size w w') : TrigR w' lo s up what sb wb ub :=
  ⟨(hb.block sb (Array.getElem?_eq_some_iff.1 h.hs).1).trans h.hs, (hb.block wb (Array.getElem?_eq_some_iff.1 h.hw).1).trans h.hw, (hb.block ub (Array.getElem?_eq_some_iff.1 h.hu).1).trans h.hu, h.los, h.low, h.lou⟩
end
theorem trigs_any (s up last : ByteArray) (what : Int) (w : World) (hup : ∀ W : World, Calls Tryz.prog 48 #[.string s] W fun e w' => e = .returned (.tuple #[.string up, .string last]) ∧ ∃ n, w' = W.drewN n) :
    Calls Tryz.prog 43 #[.string s, .int .i64 what] w fun e w' => ∃ sb wb ub, e = .returned (.func (.func 74) #[] #[.pointer (some ⟨sb, 0, none⟩), .pointer (some ⟨wb, 0, none⟩), .pointer (some ⟨ub, 0, none⟩)]) ∧ TrigR w' w.heap.size s up what sb wb ub ∧ Below w.heap.size w w' := by
  have HU := Lib.hid hup
  clear hup
  go_enter Tryz.func43, Tryz.ntmps43
  go_wp2_with fail
  refine (HU.out _).mono ?_
  rintro e w1 ⟨rfl, n, rfl⟩
  go_wp2_with fail
  go_ret
  clear HU
  have n0 := heap_alloc_new w (.cells #[.string s] 9)
  obtain ⟨u1, hu1⟩ : ∃ u1, u1 = w.alloc (.cells #[.string s] 9) := ⟨_, rfl⟩
  have a1 : Below w.heap.size w u1 := hu1 ▸ (Below.refl w.heap.size w).alloc (Nat.le_refl _) _
  have z1 : u1.heap.size = w.heap.size + 1 := hu1 ▸ Array.size_push ..
  rw [← hu1] at n0 ⊢
  have n1 := heap_alloc_new u1 (.cells #[.int .i64 what] 51)
  obtain ⟨u2, hu2⟩ : ∃ u2, u2 = u1.alloc (.cells #[.int .i64 what] 51) := ⟨_, rfl⟩
  have a2 : Below u1.heap.size u1 u2 := hu2 ▸ (Below.refl u1.heap.size u1).alloc (Nat.le_refl _) _
  have z2 : u2.heap.size = w.heap.size + 1 + 1 := hu2 ▸ ((Array.size_push ..).trans (by rw [z1]))
  rw [← hu2] at n1 ⊢
  obtain ⟨u3, hu3⟩ : ∃ u3, u3 = u2.drewN n := ⟨_, rfl⟩
  have a3 : Below u2.heap.size u2 u3 := hu3 ▸ below_drewN (Below.refl _ _) n
  have z3 : u3.heap.size = w.heap.size + 1 + 1 := by rw [hu3, ← z2]; rfl
  rw [← hu3]
  have n3 := heap_alloc_new u3 (.cells #[.string up] 9)
  have a4 : Below u3.heap.size u3 (u3.alloc (.cells #[.string up] 9)) := (Below.refl u3.heap.size u3).alloc (Nat.le_refl _) _
  rw [z1] at n1
  rw [z3] at n3
  have m1 := (a2.block w.heap.size (by omega)).trans n0
  have m2 := (a3.block w.heap.size (by omega)).trans m1
  have m3 := (a4.block w.heap.size (by omega)).trans m2
  have l2 := (a3.block (w.heap.size + 1) (by omega)).trans n1
  have l3 := (a4.block (w.heap.size + 1) (by omega)).trans l2
  exact ⟨_, _, _, rfl, ⟨m3, l3, n3, by omega, by omega, by omega⟩, ((a1.trans (a2.mono (by omega))).trans (a3.mono (by omega))).trans (a4.mono (by omega))⟩
/-- The closure of what fires. -/
def trigV (sb wb ub : Nat) : Value := .func (.func 74) #[] #[.pointer (some ⟨sb, 0, none⟩), .pointer (some ⟨wb, 0, none⟩), .pointer (some ⟨ub, 0, none⟩)]
theorem firec_any (s up : ByteArray) (what : Int) (sb wb ub tb lo : Nat) (x : Wa) (w : World) (h : TrigR w lo s up what sb wb ub) (ht : w.cell? ⟨tb, 0, none⟩ = some (trigV sb wb ub)) :
    Calls Tryz.prog 46 #[waV x, .pointer (some ⟨tb, 0, none⟩)] w fun e w' => e = .returned (.bool (trigB s up what x && x.once)) ∧ Below w.heap.size w w' := by
  have bA := (Below.refl w.heap.size w).alloc (Nat.le_refl _) (.cells #[.int .i64 x.ses, .string x.path, .bool x.kids, .bool x.once] 49)
  have N1 : WaB (w.alloc (.cells #[.int .i64 x.ses, .string x.path, .bool x.kids, .bool x.once] 49)) w.heap.size x := heap_alloc_new w _
  obtain ⟨w1, hw1⟩ : ∃ w1, w1 = w.alloc (.cells #[.int .i64 x.ses, .string x.path, .bool x.kids, .bool x.once] 49) := ⟨_, rfl⟩
  have hb : tb < w.heap.size := World.block_lt_of_cell? w _ ht
  have k1 := (bA.cell (p := ⟨tb, 0, none⟩) hb).trans ht
  rw [← hw1] at bA N1 k1
  have T1 := h.below bA
  have HT := Lib.hid (trig_any s up what sb wb ub x w1 T1.cs T1.cw T1.cu)
  have HN := Lib.hid N1
  have HB := Lib.hid bA
  have HW := Lib.hid hw1
  obtain ⟨q0, q1, q2, q3⟩ := N1.cells
  clear T1 N1 bA hb ht h hw1
  unfold trigV at k1
  have hV : waV x = .agg #[.int .i64 x.ses, .string x.path, .bool x.kids, .bool x.once] := rfl
  rw [hV] at HT
  unfold waV
  clear hV
  go_enter Tryz.func46, Tryz.ntmps46
  go_upto_region 1 with fail
  rw [← HW.out]
  go_wp2_with fail
  refine HT.out.mono ?_
  rintro e w2 ⟨rfl, b2⟩
  have N2 := HN.out.below b2
  obtain ⟨p0, p1, p2, p3⟩ := N2.cells
  have HB2 : Hid (Below w.heap.size w w2) := Lib.hid (HB.out.trans (b2.mono HB.out.size))
  clear N2 b2
  cases e1 : trigB s up what x
  · have HE := Lib.hid e1
    clear e1
    go_wp2_with fail
    go_ret
    exact ⟨by simp [HE.out], HB2.out⟩
  · have HE := Lib.hid e1
    clear e1
    go_wp2_with fail
    go_ret
    exact ⟨by simp [HE.out], HB2.out⟩
end
section
open Go.RowKit Go.Maps Go.Shelf
set_option linter.unusedVariables false
set_option maxRecDepth 100000

/-- The number of the next event of a session. -/
def nextN (N : Int → Option Int) (z : Int) : Int := IntKind.i64.wrap ((N z).getD 0 + 1)
/-- One watch's share of Fire. -/
def fireT (s up : ByteArray) (what when : Int) (st : List Ev × (Int → Option Int)) (x : Wa) : List Ev × (Int → Option Int) :=
  if trigB s up what x = true then (st.1 ++ [⟨x.ses, nextN st.2 x.ses, x.path, trigK s up what x, when⟩], updN st.2 x.ses (some (nextN st.2 x.ses))) else st
/-- The events and the last numbers behind Fire's loop. -/
def fireS (s up : ByteArray) (what when : Int) (Ws : List Wa) (st : List Ev × (Int → Option Int)) : List Ev × (Int → Option Int) := Ws.foldl (fireT s up what when) st
/-- The watches behind Fire. -/
def fireW (s up : ByteArray) (what : Int) (Ws : List Wa) : List Wa := Ws.filter fun x => !(trigB s up what x && x.once)
section
variable {s up : ByteArray} {what when : Int} {st : List Ev × (Int → Option Int)} {Ws : List Wa} {j : Nat} {x : Wa}
theorem fireS_zero : fireS s up what when (Ws.take 0) st = st := by simp [fireS]
theorem fireS_succ (h : Ws[j]? = some x) : fireS s up what when (Ws.take (j + 1)) st = fireT s up what when (fireS s up what when (Ws.take j) st) x := by
  unfold fireS
  rw [List.take_add_one, h]
  simp
theorem fireT_len : (fireT s up what when st x).1.length ≤ st.1.length + 1 := by
  unfold fireT
  split
  · simp
  · omega
theorem fireS_len (Ws : List Wa) (st : List Ev × (Int → Option Int)) : (fireS s up what when Ws st).1.length ≤ st.1.length + Ws.length := by
  induction Ws generalizing st with
  | nil => simp [fireS]
  | cons y l ih =>
    have h1 := ih (fireT s up what when st y)
    have h2 := fireT_len (s := s) (up := up) (what := what) (when := when) (st := st) (x := y)
    simp only [fireS, List.foldl_cons, List.length_cons] at h1 ⊢
    omega
theorem fireS_app (A B : List Wa) : fireS s up what when (A ++ B) st = fireS s up what when B (fireS s up what when A st) := List.foldl_append ..
theorem fireW_len : (fireW s up what Ws).length ≤ Ws.length := List.length_filter_le ..
/-- No watch of a session is concerned: its events and number stay. -/
theorem fireT_other {z : Int} (h : x.ses ≠ z) : ((fireT s up what when st x).1.filter fun e => e.ses == z) = (st.1.filter fun e => e.ses == z) ∧ (fireT s up what when st x).2 z = st.2 z := by
  unfold fireT
  split
  · refine ⟨?_, updN_other (Ne.symm h)⟩
    have : (x.ses == z) = false := by simpa using h
    simp [List.filter_append, this]
  · exact ⟨rfl, rfl⟩
end
end
end Go.Proofs.YtbbdokfankgllaaGreatDoor
