/- slices.Clone at watches and at events. No conditions beyond those in each statement. -/
import Derived.Test.YtbbdokfankgllaaGreatDoorWDel
import Derived.Lib.SliceRun
namespace Go.Proofs.YtbbdokfankgllaaGreatDoor
open Go.RowKit
set_option linter.unusedVariables false
set_option maxRecDepth 100000

set_option maxHeartbeats 4000000 in
theorem cl_wa (base : Nat) (v : Value) (L : List Wa) (w : World) (h : WRow w base v L) (hL : L.length ≤ 100000) :
    Calls Tryz.prog 35 #[v] w fun e w' => ∃ v', e = .returned v' ∧ WRow w' w.heap.size v' L ∧ Below w.heap.size w w' := by
  obtain ⟨i1, hi1, hz1, hz2, hz3⟩ := info_parts info_wa
  have hrow : w.ownsRow base 49 4 v L.length (cellsK waOne L) := h
  rcases h.2 with ⟨h1, h2⟩ | ⟨g, c, cur, h1, h3, h4, h5, h6, h7, h8⟩
  · subst h1
    have hL0 := List.eq_nil_of_length_eq_zero h2
    subst hL0
    clear h hrow
    have q22 : ∀ (w : World) (a : Option Addr) (n c n' c' : Nat), (binOp .eql 28 (.slice a n c) (.slice none n' c')).run Tryz.prog w = .ok (.bool a.isNone) w := fun w a n c n' c' => Lib.run_eql_slice_nil w _ _ a n c n' c' und_was
    go_enter Tryz.func35, Tryz.ntmps35
    go_wp2_with fail
    go_ret
    exact ⟨_, rfl, World.ownsRow_nil _ _ _ _, Below.refl _ _⟩
  · subst h1
    have hgw : g < w.heap.size := (Array.getElem?_eq_some_iff.1 h4).1
    have bA := (Below.refl w.heap.size w).alloc (Nat.le_refl _) (.cells #[] 49)
    obtain ⟨w1, hw1⟩ : ∃ w1, w1 = w.alloc (.cells #[] 49) := ⟨_, rfl⟩
    have O1 : w1.ownsRow w.heap.size 49 4 (.slice (some ⟨w.heap.size, 0, none⟩) 0 0) 0 [] := by
      rw [hw1]; exact World.ownsRow_made (base := w.heap.size) (e := 49) (size := 4) w #[] 0 (Nat.le_refl _) (Nat.zero_le _) rfl
    rw [← hw1] at bA
    have HC : Hid (∀ j u, (cellsK waOne L)[j]? = some u → w1.cell? ((⟨g, 0, none⟩ : Addr).add j) = some u) := Lib.hid fun j u hu => by
      have hjl := (List.getElem?_eq_some_iff.1 hu).1
      rw [cellsK_len waOne_len] at hjl
      rw [show (⟨g, 0, none⟩ : Addr).add j = ⟨g, j, none⟩ by rw [Addr.add_lit, Nat.zero_add], bA.cell (p := ⟨g, j, none⟩) hgw, hrow.cellAt j (by omega), hu]
    have HO := Lib.hid O1
    have HW1 := Lib.hid hw1
    have HB := Lib.hid bA
    have hlen : (cellsK waOne L).length = L.length * 4 := cellsK_len waOne_len L
    have HLN := Lib.hid hlen
    clear h hrow h3 h4 h5 h6 h7 h8 O1 bA hlen hw1
    have q22 : ∀ (w : World) (a : Option Addr) (n c n' c' : Nat), (binOp .eql 28 (.slice a n c) (.slice none n' c')).run Tryz.prog w = .ok (.bool a.isNone) w := fun w a n c n' c' => Lib.run_eql_slice_nil w _ _ a n c n' c' und_was
    go_enter Tryz.func35, Tryz.ntmps35
    go_wp2_with (at_builtin; rw [← HW1.out]; refine wpList_append_own _ rfl _ _ _ rfl w.heap.size 49 i1 _ 4 32 und_was hi1 hz1 hz2 hz3 rfl (by decide) (.slice (some ⟨w.heap.size, 0, none⟩) 0 0) 0 [] rfl HO.out ⟨g, 0, none⟩ L.length c (cellsK waOne L) rfl HLN.out HC.out (cellsK_one waOne_one L) (by unfold maxLen; omega) (by omega) HB.out.size ?_; intro v8 w8 hown8 hgrow8 hiff8; go_frame)
    go_ret
    rw [Nat.zero_add, List.nil_append] at hown8
    refine ⟨v8, rfl, hown8, HB.out.grown hgrow8 HB.out.size (fun q hq => by simp [Value.ownBlock] at hq; omega)⟩
set_option maxHeartbeats 4000000 in
theorem cl_ev (base : Nat) (v : Value) (L : List Ev) (w : World) (h : ERow w base v L) (hL : L.length ≤ 100000) :
    Calls Tryz.prog 36 #[v] w fun e w' => ∃ v', e = .returned v' ∧ ERow w' w.heap.size v' L ∧ Below w.heap.size w w' := by
  obtain ⟨i1, hi1, hz1, hz2, hz3⟩ := info_parts info_ev
  have hrow : w.ownsRow base 54 5 v L.length (cellsK evOne L) := h
  rcases h.2 with ⟨h1, h2⟩ | ⟨g, c, cur, h1, h3, h4, h5, h6, h7, h8⟩
  · subst h1
    have hL0 := List.eq_nil_of_length_eq_zero h2
    subst hL0
    clear h hrow
    have q22 : ∀ (w : World) (a : Option Addr) (n c n' c' : Nat), (binOp .eql 29 (.slice a n c) (.slice none n' c')).run Tryz.prog w = .ok (.bool a.isNone) w := fun w a n c n' c' => Lib.run_eql_slice_nil w _ _ a n c n' c' und_evs
    go_enter Tryz.func36, Tryz.ntmps36
    go_wp2_with fail
    go_ret
    exact ⟨_, rfl, World.ownsRow_nil _ _ _ _, Below.refl _ _⟩
  · subst h1
    have hgw : g < w.heap.size := (Array.getElem?_eq_some_iff.1 h4).1
    have bA := (Below.refl w.heap.size w).alloc (Nat.le_refl _) (.cells #[] 54)
    obtain ⟨w1, hw1⟩ : ∃ w1, w1 = w.alloc (.cells #[] 54) := ⟨_, rfl⟩
    have O1 : w1.ownsRow w.heap.size 54 5 (.slice (some ⟨w.heap.size, 0, none⟩) 0 0) 0 [] := by
      rw [hw1]; exact World.ownsRow_made (base := w.heap.size) (e := 54) (size := 5) w #[] 0 (Nat.le_refl _) (Nat.zero_le _) rfl
    rw [← hw1] at bA
    have HC : Hid (∀ j u, (cellsK evOne L)[j]? = some u → w1.cell? ((⟨g, 0, none⟩ : Addr).add j) = some u) := Lib.hid fun j u hu => by
      have hjl := (List.getElem?_eq_some_iff.1 hu).1
      rw [cellsK_len evOne_len] at hjl
      rw [show (⟨g, 0, none⟩ : Addr).add j = ⟨g, j, none⟩ by rw [Addr.add_lit, Nat.zero_add], bA.cell (p := ⟨g, j, none⟩) hgw, hrow.cellAt j (by omega), hu]
    have HO := Lib.hid O1
    have HW1 := Lib.hid hw1
    have HB := Lib.hid bA
    have hlen : (cellsK evOne L).length = L.length * 5 := cellsK_len evOne_len L
    have HLN := Lib.hid hlen
    clear h hrow h3 h4 h5 h6 h7 h8 O1 bA hlen hw1
    have q22 : ∀ (w : World) (a : Option Addr) (n c n' c' : Nat), (binOp .eql 29 (.slice a n c) (.slice none n' c')).run Tryz.prog w = .ok (.bool a.isNone) w := fun w a n c n' c' => Lib.run_eql_slice_nil w _ _ a n c n' c' und_evs
    go_enter Tryz.func36, Tryz.ntmps36
    go_wp2_with (at_builtin; rw [← HW1.out]; refine wpList_append_own _ rfl _ _ _ rfl w.heap.size 54 i1 _ 5 48 und_evs hi1 hz1 hz2 hz3 rfl (by decide) (.slice (some ⟨w.heap.size, 0, none⟩) 0 0) 0 [] rfl HO.out ⟨g, 0, none⟩ L.length c (cellsK evOne L) rfl HLN.out HC.out (cellsK_one evOne_one L) (by unfold maxLen; omega) (by omega) HB.out.size ?_; intro v8 w8 hown8 hgrow8 hiff8; go_frame)
    go_ret
    rw [Nat.zero_add, List.nil_append] at hown8
    refine ⟨v8, rfl, hown8, HB.out.grown hgrow8 HB.out.size (fun q hq => by simp [Value.ownBlock] at hq; omega)⟩
end Go.Proofs.YtbbdokfankgllaaGreatDoor
