/- triggers; the closure of Fire. No conditions beyond those in each statement. -/
import Derived.Test.YtbbdokfankgllaaDoorWFire
namespace Go.Proofs.YtbbdokfankgllaaDoor
open Go.RowKit Go.Maps Go.Shelf
set_option linter.unusedVariables false
set_option maxRecDepth 100000

/-- What triggers leaves: three blocks of its own, held by the closure. -/
structure TrigR (w : World) (lo : Nat) (s up : ByteArray) (what : Int) (sb wb ub : Nat) : Prop where
  hs : w.heap[sb]? = some (.cells #[.string s] 9 (0, 0))
  hw : w.heap[wb]? = some (.cells #[.int .i64 what] 39 (0, 0))
  hu : w.heap[ub]? = some (.cells #[.string up] 9 (0, 0))
  los : lo ≤ sb
  low : lo ≤ wb
  lou : lo ≤ ub
section
variable {w w' : World} {lo : Nat} {s up : ByteArray} {what : Int} {sb wb ub : Nat}
theorem TrigR.cs (h : TrigR w lo s up what sb wb ub) : w.cell? ⟨sb, 0, none⟩ = some (.string s) := by simp [World.cell?, h.hs]
theorem TrigR.cw (h : TrigR w lo s up what sb wb ub) : w.cell? ⟨wb, 0, none⟩ = some (.int .i64 what) := by simp [World.cell?, h.hw]
theorem TrigR.cu (h : TrigR w lo s up what sb wb ub) : w.cell? ⟨ub, 0, none⟩ = some (.string up) := by simp [World.cell?, h.hu]
theorem TrigR.kept {t : Option Nat} (h : TrigR w lo s up what sb wb ub) (hg : w.grownBy w' t) (h1 : t ≠ some sb) (h2 : t ≠ some wb) (h3 : t ≠ some ub) : TrigR w' lo s up what sb wb ub :=
  ⟨(hg.block sb (Array.getElem?_eq_some_iff.1 h.hs).1 (fun e => h1 e.symm)).trans h.hs, (hg.block wb (Array.getElem?_eq_some_iff.1 h.hw).1 (fun e => h2 e.symm)).trans h.hw, (hg.block ub (Array.getElem?_eq_some_iff.1 h.hu).1 (fun e => h3 e.symm)).trans h.hu, h.los, h.low, h.lou⟩
theorem TrigR.below (h : TrigR w lo s up what sb wb ub) (hb : Below w.heap.size w w') : TrigR w' lo s up what sb wb ub :=
  ⟨(hb.block sb (Array.getElem?_eq_some_iff.1 h.hs).1).trans h.hs, (hb.block wb (Array.getElem?_eq_some_iff.1 h.hw).1).trans h.hw, (hb.block ub (Array.getElem?_eq_some_iff.1 h.hu).1).trans h.hu, h.los, h.low, h.lou⟩
end
theorem trigs_any (s up last : ByteArray) (what : Int) (w : World) (hup : ∀ W : World, Calls Tryd.prog 41 #[.string s] W fun e w' => e = .returned (.tuple #[.string up, .string last]) ∧ ∃ n, w' = W.drewN n) :
    Calls Tryd.prog 24 #[.string s, .int .i64 what] w fun e w' => ∃ sb wb ub, e = .returned (.func (.func 43) #[] #[.pointer (some ⟨sb, 0, none⟩), .pointer (some ⟨wb, 0, none⟩), .pointer (some ⟨ub, 0, none⟩)]) ∧ TrigR w' w.heap.size s up what sb wb ub ∧ Below w.heap.size w w' := by
  have HU := Lib.hid hup
  clear hup
  go_enter Tryd.func24, Tryd.ntmps24
  go_wp2_with fail
  refine (HU.out _).mono ?_
  rintro e w1 ⟨rfl, n, rfl⟩
  go_wp2_with fail
  go_ret
  clear HU
  have n0 := heap_alloc_new w (.cells #[.string s] 9)
  obtain ⟨u1, hu1⟩ : ∃ u1, u1 = w.alloc (.cells #[.string s] 9) := ⟨_, rfl⟩
  have a1 : Below w.heap.size w u1 := hu1 ▸ (Below.refl w.heap.size w).alloc (Nat.le_refl _) _
  have z1 : u1.heap.size = w.heap.size + 1 := hu1 ▸ Array.size_push ..
  rw [← hu1] at n0 ⊢
  have n1 := heap_alloc_new u1 (.cells #[.int .i64 what] 39)
  obtain ⟨u2, hu2⟩ : ∃ u2, u2 = u1.alloc (.cells #[.int .i64 what] 39) := ⟨_, rfl⟩
  have a2 : Below u1.heap.size u1 u2 := hu2 ▸ (Below.refl u1.heap.size u1).alloc (Nat.le_refl _) _
  have z2 : u2.heap.size = w.heap.size + 1 + 1 := hu2 ▸ ((Array.size_push ..).trans (by rw [z1]))
  rw [← hu2] at n1 ⊢
  obtain ⟨u3, hu3⟩ : ∃ u3, u3 = u2.drewN n := ⟨_, rfl⟩
  have a3 : Below u2.heap.size u2 u3 := hu3 ▸ below_drewN (Below.refl _ _) n
  have z3 : u3.heap.size = w.heap.size + 1 + 1 := by rw [hu3, ← z2]; rfl
  rw [← hu3]
  have n3 := heap_alloc_new u3 (.cells #[.string up] 9)
  have a4 : Below u3.heap.size u3 (u3.alloc (.cells #[.string up] 9)) := (Below.refl u3.heap.size u3).alloc (Nat.le_refl _) _
  rw [z1] at n1
  rw [z3] at n3
  have m1 := (a2.block w.heap.size (by omega)).trans n0
  have m2 := (a3.block w.heap.size (by omega)).trans m1
  have m3 := (a4.block w.heap.size (by omega)).trans m2
  have l2 := (a3.block (w.heap.size + 1) (by omega)).trans n1
  have l3 := (a4.block (w.heap.size + 1) (by omega)).trans l2
  exact ⟨_, _, _, rfl, ⟨m3, l3, n3, by omega, by omega, by omega⟩, ((a1.trans (a2.mono (by omega))).trans (a3.mono (by omega))).trans (a4.mono (by omega))⟩
/-- The closure of what fires. -/
def trigV (sb wb ub : Nat) : Value := .func (.func 43) #[] #[.pointer (some ⟨sb, 0, none⟩), .pointer (some ⟨wb, 0, none⟩), .pointer (some ⟨ub, 0, none⟩)]
theorem firec_any (s up : ByteArray) (what : Int) (sb wb ub tb lo : Nat) (x : Wa) (w : World) (h : TrigR w lo s up what sb wb ub) (ht : w.cell? ⟨tb, 0, none⟩ = some (trigV sb wb ub)) :
    Calls Tryd.prog 27 #[waV x, .pointer (some ⟨tb, 0, none⟩)] w fun e w' => e = .returned (.bool (trigB s up what x && x.once)) ∧ Below w.heap.size w w' := by
  have bA := (Below.refl w.heap.size w).alloc (Nat.le_refl _) (.cells #[.int .i64 x.ses, .string x.path, .bool x.kids, .bool x.once] 45)
  have N1 : WaB (w.alloc (.cells #[.int .i64 x.ses, .string x.path, .bool x.kids, .bool x.once] 45)) w.heap.size x := heap_alloc_new w _
  obtain ⟨w1, hw1⟩ : ∃ w1, w1 = w.alloc (.cells #[.int .i64 x.ses, .string x.path, .bool x.kids, .bool x.once] 45) := ⟨_, rfl⟩
  have hb : tb < w.heap.size := World.block_lt_of_cell? w _ ht
  have k1 := (bA.cell (p := ⟨tb, 0, none⟩) hb).trans ht
  rw [← hw1] at bA N1 k1
  have T1 := h.below bA
  have HT := Lib.hid (trig_any s up what sb wb ub x w1 T1.cs T1.cw T1.cu)
  have HN := Lib.hid N1
  have HB := Lib.hid bA
  have HW := Lib.hid hw1
  obtain ⟨q0, q1, q2, q3⟩ := N1.cells
  clear T1 N1 bA hb ht h hw1
  unfold trigV at k1
  have hV : waV x = .agg #[.int .i64 x.ses, .string x.path, .bool x.kids, .bool x.once] := rfl
  rw [hV] at HT
  unfold waV
  clear hV
  go_enter Tryd.func27, Tryd.ntmps27
  go_upto_region 1 with fail
  rw [← HW.out]
  go_wp2_with fail
  refine HT.out.mono ?_
  rintro e w2 ⟨rfl, b2⟩
  have N2 := HN.out.below b2
  obtain ⟨p0, p1, p2, p3⟩ := N2.cells
  have HB2 : Hid (Below w.heap.size w w2) := Lib.hid (HB.out.trans (b2.mono HB.out.size))
  clear N2 b2
  cases e1 : trigB s up what x
  · have HE := Lib.hid e1
    clear e1
    go_wp2_with fail
    go_ret
    exact ⟨by simp [HE.out], HB2.out⟩
  · have HE := Lib.hid e1
    clear e1
    go_wp2_with fail
    go_ret
    exact ⟨by simp [HE.out], HB2.out⟩
end Go.Proofs.YtbbdokfankgllaaDoor
