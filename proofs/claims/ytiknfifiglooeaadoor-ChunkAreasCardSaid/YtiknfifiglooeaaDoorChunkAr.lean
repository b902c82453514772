/- Law 7's areas: a clone of a store's device, and what is opened when the newer list's copies are lost. No conditions beyond those in each statement. -/
import Derived.Test.YtiknfifiglooeaaDoorChunkPw
import Derived.Test.YtiknfifiglooeaaDoorDevCl
namespace Go.Proofs.YtiknfifiglooeaaDoor
section
open Go Go.RowKit Go.Proofs.Tryd
set_option linter.unusedVariables false
set_option maxRecDepth 100000

/-- Both copies of the list in the area that begins at a are lost. -/
def lose2 (C : Ct) (a : Nat) : Ct := put2 (put2 C a (rc0, 2)) (a + 1) (rc0, 2)
theorem lose2_other {C : Ct} {a j : Nat} (h : j < a ∨ a + 2 ≤ j) : lose2 C a j = C j := by
  unfold lose2
  rw [put2_other (by omega), put2_other (by omega)]
theorem lose2_at0 {C : Ct} {a : Nat} : lose2 C a a = (rc0, 2) := by unfold lose2; rw [put2_other (by omega), put2_same]
theorem lose2_at1 {C : Ct} {a : Nat} : lose2 C a (a + 1) = (rc0, 2) := by unfold lose2; rw [put2_same]
theorem areas_snap {C : Ct} {ar : Nat} {i t : Int} {s : ByteArray} (h : Snap C (0 + ar * 66) i t s) (hs : s.size ≤ 25600) (har : ar ≤ 1) : Snap (lose2 C ((1 - ar) * 66)) (0 + ar * 66) i t s :=
  h.out hs (fun j h1 h2 => lose2_other (by omega))
theorem areas_open {C : Ct} {ar : Nat} {i t : Int} {s : ByteArray} (h : Snap C (0 + ar * 66) i t s) (hg : (ofL i t s).Good) (har : ar ≤ 1) : opnC (lose2 C ((1 - ar) * 66)) 0 = (ofL i t s, (ar : Int)) := by
  have h1 := areas_snap h (good_size hg) har
  have hi : (0 : Int) < (ofL i t s).index := by have := hg.in.1; omega
  refine opnC_max har hi ⟨0, by omega, cpC_list (x := 1) h1.l0 hg⟩ (fun a n ha hn => ?_)
  by_cases e : a = ar
  · subst e
    refine .inr ⟨rfl, ?_⟩
    have hn2 : n = 0 ∨ n = 1 := by omega
    rcases hn2 with rfl | rfl
    · exact cpC_list (x := 1) h1.l0 hg
    · exact cpC_list (x := 1) h1.l1 hg
  · refine .inl ?_
    have ea : a = 1 - ar := by omega
    subst ea
    have hn2 : n = 0 ∨ n = 1 := by omega
    rw [Nat.zero_add]
    rcases hn2 with rfl | rfl
    · rw [Nat.add_zero, cpC_rc0 (x := 2) lose2_at0]; exact hi
    · rw [cpC_rc0 (x := 2) lose2_at1]; exact hi
/-- What the law keeps behind k puts. -/
def InvA (k : Nat) (l : Ls) (ar : Nat) (D : Dv) (s : ByteArray) : Prop :=
  (k = 0 ∧ l = ls0 ∧ ar = 0) ∨ (0 < k ∧ l = ofL (k : Int) 1 s ∧ (ofL (k : Int) 1 s).Good ∧ ar = (k - 1) % 2 ∧ Snap (cont D) (0 + ar * 66) (k : Int) 1 s)
theorem InvA.index {k ar : Nat} {l : Ls} {D : Dv} {s : ByteArray} (h : InvA k l ar D s) : l.index = (k : Int) := by
  rcases h with ⟨rfl, rfl, _⟩ | ⟨_, rfl, _⟩ <;> rfl
theorem InvA.nxt {k ar : Nat} {l : Ls} {D : Dv} {s : ByteArray} (h : InvA k l ar D s) : nxtA l ar = k % 2 := by
  unfold nxtA
  rcases h with ⟨rfl, rfl, _⟩ | ⟨hk, rfl, _, rfl, _⟩
  · rfl
  · rw [if_neg (by show ¬ (k : Int) = 0; omega)]; omega
theorem InvA.put {k ar : Nat} {l : Ls} {D D' : Dv} {s t : ByteArray} (hg : (ofL ((k : Int) + 1) 1 t).Good) (hc : cont D' = putC (cont D) (0 + k % 2 * 66) ((k : Int) + 1) 1 t) : InvA (k + 1) (ofL ((k : Int) + 1) 1 t) (k % 2) D' t := by
  refine .inr ⟨by omega, rfl, by exact hg, by omega, ?_⟩
  rw [hc]
  exact putC_snap _ _ _ _ _
/-- The older snapshot is still there. -/
theorem InvA.old {k ar : Nat} {l : Ls} {D D' : Dv} {s t : ByteArray} (h : InvA k l ar D s) (hk : 0 < k) (ht : t.size ≤ 25600) (hc : cont D' = putC (cont D) (0 + k % 2 * 66) ((k : Int) + 1) 1 t) :
    (ofL (k : Int) 1 s).Good ∧ Snap (cont D') (0 + ar * 66) (k : Int) 1 s ∧ 1 - ar = k % 2 ∧ ar ≤ 1 := by
  rcases h with ⟨rfl, _⟩ | ⟨_, rfl, hg, rfl, hs⟩
  · omega
  · refine ⟨hg, ?_, by omega, by omega⟩
    rw [hc]
    exact hs.out (good_size hg) (fun j h1 h2 => putC_out ht (by omega))

section
variable {m : Nat} {E : Nat → Prop} {w x : World} {b B M base : Nat} {l : Ls} {sv : Value} {ar : Nat} {D : Dv}
/-- A store's device, cloned. -/
theorem st_clone (h : StC m E w b B M base l sv ar D) :
    Calls Tryd.prog 48 #[.pointer (some ⟨B, 0, none⟩)] w fun e w' => ∃ C, e = .returned (.pointer (some ⟨C, 0, none⟩)) ∧ DevW w.heap.size (fun _ => False) w' C D ∧ Below w.heap.size w w' := by
  obtain ⟨S, hd, _⟩ := h.dev
  refine (devclone_any hd h.calm.pend (by have := h.len; have := h.room; omega)).mono ?_
  rintro e w' ⟨C, rfl, h1, hb⟩
  exact ⟨C, rfl, devw_new h1 (Nat.le_refl _) (fun j hj => hj.elim) hb.size, hb⟩
/-- Its block q is lost. -/
theorem dv_lose {n : Nat} {F : Nat → Prop} {C : Nat} (q : Nat) (hd : DevW n F w C D) (hc : Calm D) (hl : D.bs.length = M) (hq : q < M) (hn : n ≤ w.heap.size) :
    Calls Tryd.prog 40 #[.pointer (some ⟨C, 0, none⟩), .int .i64 (q : Int)] w fun e w' => e = .returned (.tuple #[]) ∧ ∃ D', DevW n F w' C D' ∧ Calm D' ∧ D'.bs.length = M ∧ cont D' = put2 (cont D) q (rc0, 2) ∧ Below n w w' := by
  obtain ⟨c1, n1, k1⟩ := lose_cont (D := D) (k := q) hc (by rw [hl]; exact hq)
  refine (devw_lose (q : Int) hn hd).mono ?_
  rintro e w' ⟨rfl, h1, hb, _⟩
  exact ⟨rfl, _, h1, c1, n1.trans hl, k1, hb⟩
end
end
end Go.Proofs.YtiknfifiglooeaaDoor
