/- The closures of a book; Noted. No conditions beyond those in each statement. -/
import Derived.Test.YtbbdokfankgllaaGreatDoorWAdd
namespace Go.Proofs.YtbbdokfankgllaaGreatDoor
open Go.RowKit Go.Maps Go.Shelf
set_option linter.unusedVariables false
set_option maxRecDepth 100000

section
variable {w w' : World} {base bb : Nat} {vw ve vm : Value} {Ws : List Wa} {Es : List Ev} {k c : Nat} {N : Int → Option Int}
theorem BkW.ne_e (h : BkW w base bb vw ve vm Ws Es k c N) {g : Nat} (hg : ve.ownBlock = some g) : g ≠ bb := by
  obtain ⟨cur, h1, _⟩ := row_own h.es hg
  exact cells_ne h1 h.box (by decide)
theorem BkW.turnE (h : BkW w base bb vw ve vm Ws Es k c N) {v' : Value} {L' : List Ev} (hg : w.grownBy w' ve.ownBlock) (hr : ERow w' base v' L') : BkW (w'.setCell ⟨bb, 1, none⟩ v') base bb vw v' vm Ws L' k c N := by
  have hbox : w'.heap[bb]? = some (.cells #[vw, ve, vm] 56 (0, 0)) := (hg.block bb h.lt (fun e => h.ne_e e.symm rfl)).trans h.box
  have hg2 := set_grown w' bb 1 v'
  refine ⟨?_, ?_, ?_, ?_, h.lo.1, Nat.le_trans h.lo.2 (Nat.le_trans hg.size hg2.size)⟩
  · have := bset (i := 1) (u := v') hbox
    simpa using this
  · have e1 : WRow w' base vw Ws := h.ws.kept hg (fun g e e2 => by
      obtain ⟨c1, h1, _⟩ := row_own h.ws e
      obtain ⟨c2, h2, _⟩ := row_own h.es e2
      exact cells_ne h1 h2 (by decide) rfl)
    refine e1.kept hg2 (fun g e e2 => ?_)
    obtain ⟨c1, h1, _⟩ := row_own e1 e
    exact cells_ne h1 hbox (by decide) (Option.some.inj e2).symm
  · refine hr.kept hg2 (fun g e e2 => ?_)
    obtain ⟨cur, h1, _⟩ := row_own hr e
    exact cells_ne h1 hbox (by decide) (Option.some.inj e2).symm
  · rcases h.last with h1 | ⟨mb, h1, h2, h3⟩
    · exact .inl h1
    · refine .inr ⟨mb, h1, (h2.keep0 (hg.block mb h2.lt (fun e => ?_))).keep0 (Below.heap_setCell w' ⟨bb, 1, none⟩ v' mb (fun e => ?_)), h3⟩
      · obtain ⟨c1, q1, _⟩ := row_own h.es e.symm
        exact map_ne q1 h2 rfl
      · exact map_ne h.box h2 e.symm
end
/-- Is an event one of those that are noted. -/
def notB (s no : Int) (x : Ev) : Bool := (x.ses == s) && decide (x.no ≤ no)
theorem notc_any (s no : Int) (sb nb : Nat) (x : Ev) (w : World) (h1 : w.cell? ⟨sb, 0, none⟩ = some (.int .i64 s)) (h2 : w.cell? ⟨nb, 0, none⟩ = some (.int .i64 no)) :
    Calls Tryz.prog 50 #[evV x, .pointer (some ⟨sb, 0, none⟩), .pointer (some ⟨nb, 0, none⟩)] w fun e w' => e = .returned (.bool (notB s no x)) ∧ Below w.heap.size w w' := by
  have bA := (Below.refl w.heap.size w).alloc (Nat.le_refl _) (.cells #[.int .i64 x.ses, .int .i64 x.no, .string x.path, .int .i64 x.what, .int .i64 x.when] 54)
  have hs : sb < w.heap.size := World.block_lt_of_cell? w _ h1
  have hn : nb < w.heap.size := World.block_lt_of_cell? w _ h2
  have k1 := (bA.cell (p := ⟨sb, 0, none⟩) hs).trans h1
  have k2 := (bA.cell (p := ⟨nb, 0, none⟩) hn).trans h2
  unfold evV
  cases e1 : (x.ses == s)
  · have HR : Hid (notB s no x = false) := Lib.hid (by unfold notB; rw [e1]; rfl)
    go_enter Tryz.func50, Tryz.ntmps50
    go_wp2_with fail
    go_ret
    rw [HR.out]; exact ⟨rfl, bA⟩
  · cases e2 : decide (x.no ≤ no)
    · have HR : Hid (notB s no x = false) := Lib.hid (by unfold notB; rw [e1, e2]; rfl)
      go_enter Tryz.func50, Tryz.ntmps50
      go_wp2_with fail
      go_ret
      rw [HR.out]; exact ⟨rfl, bA⟩
    · have HR : Hid (notB s no x = true) := Lib.hid (by unfold notB; rw [e1, e2]; rfl)
      go_enter Tryz.func50, Tryz.ntmps50
      go_wp2_with fail
      go_ret
      rw [HR.out]; exact ⟨rfl, bA⟩
theorem dropw_any (s : Int) (sb : Nat) (x : Wa) (w : World) (h1 : w.cell? ⟨sb, 0, none⟩ = some (.int .i64 s)) :
    Calls Tryz.prog 51 #[waV x, .pointer (some ⟨sb, 0, none⟩)] w fun e w' => e = .returned (.bool (x.ses == s)) ∧ Below w.heap.size w w' := by
  have bA := (Below.refl w.heap.size w).alloc (Nat.le_refl _) (.cells #[.int .i64 x.ses, .string x.path, .bool x.kids, .bool x.once] 49)
  have hs : sb < w.heap.size := World.block_lt_of_cell? w _ h1
  have k1 := (bA.cell (p := ⟨sb, 0, none⟩) hs).trans h1
  unfold waV
  go_enter Tryz.func51, Tryz.ntmps51
  go_wp2_with fail
  go_ret
  exact ⟨rfl, bA⟩
theorem drope_any (s : Int) (sb : Nat) (x : Ev) (w : World) (h1 : w.cell? ⟨sb, 0, none⟩ = some (.int .i64 s)) :
    Calls Tryz.prog 52 #[evV x, .pointer (some ⟨sb, 0, none⟩)] w fun e w' => e = .returned (.bool (x.ses == s)) ∧ Below w.heap.size w w' := by
  have bA := (Below.refl w.heap.size w).alloc (Nat.le_refl _) (.cells #[.int .i64 x.ses, .int .i64 x.no, .string x.path, .int .i64 x.what, .int .i64 x.when] 54)
  have hs : sb < w.heap.size := World.block_lt_of_cell? w _ h1
  have k1 := (bA.cell (p := ⟨sb, 0, none⟩) hs).trans h1
  unfold evV
  go_enter Tryz.func52, Tryz.ntmps52
  go_wp2_with fail
  go_ret
  exact ⟨rfl, bA⟩
set_option maxHeartbeats 8000000 in
theorem noted_any (base bb : Nat) (vw ve vm : Value) (Ws : List Wa) (Es : List Ev) (k c : Nat) (N : Int → Option Int) (s no : Int) (w : World) (h : BkW w base bb vw ve vm Ws Es k c N) (hl : Es.length ≤ 100000) :
    Calls Tryz.prog 22 #[.pointer (some ⟨bb, 0, none⟩), .int .i64 s, .int .i64 no] w fun e w' => e = .returned (.tuple #[]) ∧ ∃ ve', BkW w' base bb vw ve' vm Ws (Es.filter fun x => !notB s no x) k c N ∧ Below base w w' ∧ FrM w w' bb vw ve vm vw ve' vm := by
  have b1 := (Below.refl w.heap.size w).alloc (Nat.le_refl _) (.cells #[.int .i64 s] 3)
  obtain ⟨w1, hw1⟩ : ∃ w1, w1 = w.alloc (.cells #[.int .i64 s] 3) := ⟨_, rfl⟩
  have N1 := heap_alloc_new w (.cells #[.int .i64 s] 3)
  rw [← hw1] at b1 N1
  have b2 := (Below.refl w1.heap.size w1).alloc (Nat.le_refl _) (.cells #[.int .i64 no] 3)
  have N2 := heap_alloc_new w1 (.cells #[.int .i64 no] 3)
  obtain ⟨w2, hw2⟩ : ∃ w2, w2 = w1.alloc (.cells #[.int .i64 no] 3) := ⟨_, rfl⟩
  rw [← hw2] at b2 N2
  have hs1 : w1.heap.size = w.heap.size + 1 := by rw [hw1]; exact Array.size_push _
  have M1 := (b2.block w.heap.size (by omega)).trans N1
  rw [hs1] at N2
  have b12 := b1.trans (b2.mono b1.size)
  have h2 := h.below b12
  have hvs : ∀ g, ve.ownBlock = some g → g < w.heap.size := fun g hg => by
    obtain ⟨c1, q1, _⟩ := row_own h.es hg
    exact (Array.getElem?_eq_some_iff.1 q1).1
  have hdel := del_ev 50 #[.pointer (some ⟨w.heap.size, 0, none⟩), .pointer (some ⟨w.heap.size + 1, 0, none⟩)] (enters_of Tryz.func50 (by kernel_rfl) rfl) (notB s no) base ve Es w2 hl h2.es (fun W x hW => by
    have c1 := (hW.block w.heap.size (Array.getElem?_eq_some_iff.1 M1).1 (fun e => by have := hvs _ e.symm; omega)).trans M1
    have c2 := (hW.block (w.heap.size + 1) (by have := (Array.getElem?_eq_some_iff.1 N2).1; omega) (fun e => by have := hvs _ e.symm; omega)).trans N2
    exact notc_any s no w.heap.size (w.heap.size + 1) x W (by simp [World.cell?, c1]) (by simp [World.cell?, c2]))
  have HDEL := Lib.hid hdel
  have HH := Lib.hid h2
  have HW := Lib.hid (show w2 = (w.alloc (.cells #[.int .i64 s] 3)).alloc (.cells #[.int .i64 no] 3) by rw [hw2, hw1])
  have x1 := h2.c1
  obtain ⟨ea, ec, hev, _, _⟩ := evV_form h2.es
  have HB := Lib.hid b12
  have HBASE := Lib.hid h.lo
  clear hdel h2 hw1 hw2 M1 N1 N2 b1 b2 b12 h hvs hs1
  subst hev
  go_enter Tryz.func22, Tryz.ntmps22
  go_upto_region 1 with fail
  rw [← HW.out]
  go_wp2_with fail
  refine HDEL.out.mono ?_
  rintro e w3 ⟨v', rfl, hr, hob, hg⟩
  have hbox : w3.heap[bb]? = some (.cells #[vw, .slice ea Es.length ec, vm] 56 (0, 0)) := (hg.block bb HH.out.lt (fun e => HH.out.ne_e e.symm rfl)).trans HH.out.box
  have y1 : w3.cell? ⟨bb, 1, none⟩ = some (.slice ea Es.length ec) := by simp [World.cell?, hbox]
  have f1 : w3.frozen? ⟨bb, 1, none⟩ = false := by simp [World.frozen?, hbox]
  obtain ⟨na, nc, hv', _, _⟩ := evV_form hr
  have HK := Lib.hid (HH.out.turnE hg hr)
  have HBB : Hid (Below base w (w3.setCell ⟨bb, 1, none⟩ v')) := Lib.hid (by
    have q1 := (HB.out.mono HBASE.out.2).grown hg (Nat.le_trans HBASE.out.2 HB.out.size) (fun g hg => by
      obtain ⟨c1, _, q3⟩ := row_own HH.out.es hg
      exact q3)
    exact q1.setCell (p := ⟨bb, 1, none⟩) HBASE.out.1 _)
  have HFR := Lib.hid ((FrM.low (mb := bb) (vw := vw) (ve := .slice ea Es.length ec) (vm := vm) HB.out).stepE hg (.same hob))
  obtain ⟨nl, hnl⟩ : ∃ nl, nl = (Es.filter fun x => !notB s no x).length := ⟨_, rfl⟩
  rw [← hnl] at hv'
  subst hv'
  clear hr hg hbox hnl hob
  go_wp2_with fail
  go_end0
  exact ⟨rfl, _, HK.out, HBB.out, HFR.out⟩
end Go.Proofs.YtbbdokfankgllaaGreatDoor
