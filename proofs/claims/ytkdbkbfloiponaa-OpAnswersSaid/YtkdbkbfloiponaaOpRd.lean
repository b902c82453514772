/- readOp; the blocks of operations and commands. No conditions beyond those in each statement. -/
import Derived.Test.YtkdbkbfloiponaaOpBytes
namespace Go.Proofs.Ytkdbkbfloiponaa
open Go.RowKit
set_option linter.unusedVariables false
set_option linter.unusedSimpArgs false
set_option maxRecDepth 100000

/-- An operation in a block of its own. -/
def opA (o : Opr) : Array Value := #[.int .i64 o.does, .string o.path, .string o.data, .int .i64 o.ver, .bool o.ser, .bool o.own]
def OpB (w : World) (b : Nat) (o : Opr) : Prop := w.heap[b]? = some (.cells (opA o) 50 (0, 0))
theorem OpB.lt {w : World} {b : Nat} {o : Opr} (h : OpB w b o) : b < w.heap.size := (Array.getElem?_eq_some_iff.1 h).1
theorem OpB.below {w w' : World} {b : Nat} {o : Opr} (h : OpB w b o) (hb : Below w.heap.size w w') : OpB w' b o := (hb.block b h.lt).trans h
theorem OpB.kept {w w' : World} {b : Nat} {o : Opr} {r : Option Nat} (h : OpB w b o) (hg : w.grownBy w' r) (hr : some b ≠ r) : OpB w' b o := (hg.block b h.lt hr).trans h
theorem OpB.cells {w : World} {b : Nat} {n : Opr} (h : OpB w b n) : (w.cell? ⟨b, 0, none⟩ = some (.int .i64 n.does) ∧ w.cell? ⟨b, 1, none⟩ = some (.string n.path) ∧ w.cell? ⟨b, 2, none⟩ = some (.string n.data) ∧ w.cell? ⟨b, 3, none⟩ = some (.int .i64 n.ver) ∧ w.cell? ⟨b, 4, none⟩ = some (.bool n.ser) ∧ w.cell? ⟨b, 5, none⟩ = some (.bool n.own)) ∧
    (w.frozen? ⟨b, 0, none⟩ = false ∧ w.frozen? ⟨b, 1, none⟩ = false ∧ w.frozen? ⟨b, 2, none⟩ = false ∧ w.frozen? ⟨b, 3, none⟩ = false ∧ w.frozen? ⟨b, 4, none⟩ = false ∧ w.frozen? ⟨b, 5, none⟩ = false) := by
  unfold OpB opA at h
  simp [World.cell?, World.frozen?, h]
theorem OpB.new (w : World) (n : Opr) : OpB (w.alloc (.cells (opA n) 50)) w.heap.size n := heap_alloc_new w _
theorem only6 {b r : Nat} {w x : World} (h : w.grownBy x (some r)) (hb : w.heap.size ≤ b) (v0 v1 v2 v3 v4 v5 : Value) : w.grownBy ((((((x.setCell ⟨b, 0, none⟩ v0).setCell ⟨b, 1, none⟩ v1).setCell ⟨b, 2, none⟩ v2).setCell ⟨b, 3, none⟩ v3).setCell ⟨b, 4, none⟩ v4).setCell ⟨b, 5, none⟩ v5) (some r) :=
  only_setCell (p := ⟨b, 5, none⟩) (only_setCell (p := ⟨b, 4, none⟩) (only_setCell (p := ⟨b, 3, none⟩) (only_setCell (p := ⟨b, 2, none⟩) (only_setCell (p := ⟨b, 1, none⟩) (only_setCell (p := ⟨b, 0, none⟩) h (.inr hb) _) (.inr hb) _) (.inr hb) _) (.inr hb) _) (.inr hb) _) (.inr hb) _
theorem OpB.set6 {x : World} {b : Nat} {m : Opr} (h : OpB x b m) (n : Opr) : OpB ((((((x.setCell ⟨b, 0, none⟩ (.int .i64 n.does)).setCell ⟨b, 1, none⟩ (.string n.path)).setCell ⟨b, 2, none⟩ (.string n.data)).setCell ⟨b, 3, none⟩ (.int .i64 n.ver)).setCell ⟨b, 4, none⟩ (.bool n.ser)).setCell ⟨b, 5, none⟩ (.bool n.own)) b n := by
  unfold OpB opA at h ⊢
  have h0 := block_setCell (i := 0) (u := .int .i64 n.does) h
  have h1 := block_setCell (i := 1) (u := .string n.path) h0
  have h2 := block_setCell (i := 2) (u := .string n.data) h1
  have h3 := block_setCell (i := 3) (u := .int .i64 n.ver) h2
  have h4 := block_setCell (i := 4) (u := .bool n.ser) h3
  have h5 := block_setCell (i := 5) (u := .bool n.own) h4
  simp only [List.setIfInBounds_toArray, List.set_cons_zero, List.set_cons_succ] at h5
  exact h5
/-- A block kept while others are stored into. -/
theorem kept_set {x : World} {b c i : Nat} {u : Value} {o : Obj} (h : x.heap[c]? = some o) (hne : c ≠ b) : (x.setCell ⟨b, i, none⟩ u).heap[c]? = some o := (Below.heap_setCell x ⟨b, i, none⟩ u c hne).trans h
theorem Rs.set {x : World} {b c i : Nat} {u : Value} {st : RS} (h : Rs x c st) (hne : c ≠ b) : Rs (x.setCell ⟨b, i, none⟩ u) c st := by
  cases st with
  | none => exact kept_set h hne
  | some l => exact ⟨kept_set h.1 hne, h.2⟩
/-- What readOp reads. -/
def rdO (st : RS) : Opr × RS :=
  let a := numF 6 4 st
  let b := numF 6 281474976710655 a.2
  let c := textF 60 b.2
  let d := textF 61 c.2
  let e := flagF d.2
  let f := flagF e.2
  (⟨a.1, ⟨c.1.toArray⟩, ⟨d.1.toArray⟩, b.1 + -1, e.1, f.1⟩, f.2)
theorem numF_most (st : RS) (most : Int) (h0 : 0 ≤ most) : 0 ≤ (numF 6 most st).1 ∧ (numF 6 most st).1 ≤ most := by
  cases st with
  | none => exact ⟨Int.le_refl 0, h0⟩
  | some l =>
    by_cases hc : l.length < 6 ∨ most < (val (l.take 6) : Int)
    · simp only [numF, hc, if_true]; exact ⟨Int.le_refl 0, h0⟩
    · simp only [numF, hc, if_false]; omega
theorem readop_results (W : World) (tmps : Array Value) (b : Nat) (n : Opr) (h4 : tmps.getD 2 undef = .pointer (some ⟨b, 0, none⟩)) (hN : OpB W b n) :
    (results Try.f24 tmps).run Try.prog W = .ok (opV n) W := by
  obtain ⟨⟨c0, c1, c2, c3, c4, c5⟩, _⟩ := OpB.cells hN
  simp at h4
  simp [results, Try.results24, go_sem, h4, c0, c1, c2, c3, c4, c5, opV]
set_option maxHeartbeats 4000000 in
theorem readop_any (rb : Nat) (st : RS) (w : World) (h : Rs w rb st) :
    Calls Try.prog 24 #[.pointer (some ⟨rb, 0, none⟩)] w fun e w' => e = .returned (opV (rdO st).1) ∧ Rs w' rb (rdO st).2 ∧ w.grownBy w' (some rb) := by
  have hrb := h.lt
  have b1 := (Below.refl _ w).alloc (Nat.le_refl _) (.cells (opA Opr.zero) 50)
  have N1 := OpB.new w Opr.zero
  have R1 := h.below b1
  have g1 := only_of_below b1 (some rb)
  have q2 := numF_most (numF 6 4 st).2 281474976710655 (by decide)
  have C1 := num_rs rb 4 st _ R1
  rw [show max (4 : Int) 0 = 4 by decide] at C1
  have HC1 := Lib.hid C1
  have HC2 := Lib.hid (fun (W : World) (hW : Rs W rb (numF 6 4 st).2) => num_rs rb 281474976710655 _ W hW)
  rw [show max (281474976710655 : Int) 0 = 281474976710655 by decide] at HC2
  have HC3 := Lib.hid (fun (W : World) (hW : Rs W rb (numF 6 281474976710655 (numF 6 4 st).2).2) => text_rs rb 60 _ W hW)
  have HC4 := Lib.hid (fun (W : World) (hW : Rs W rb (textF 60 (numF 6 281474976710655 (numF 6 4 st).2).2).2) => text_rs rb 61 _ W hW)
  have HC5 := Lib.hid (fun (W : World) (hW : Rs W rb (textF 61 (textF 60 (numF 6 281474976710655 (numF 6 4 st).2).2).2).2) => flag_rs rb _ W hW)
  have HC6 := Lib.hid (fun (W : World) (hW : Rs W rb (flagF (textF 61 (textF 60 (numF 6 281474976710655 (numF 6 4 st).2).2).2).2).2) => flag_rs rb _ W hW)
  have HRD : Hid (rdO st = (⟨(numF 6 4 st).1, ⟨(textF 60 (numF 6 281474976710655 (numF 6 4 st).2).2).1.toArray⟩, ⟨(textF 61 (textF 60 (numF 6 281474976710655 (numF 6 4 st).2).2).2).1.toArray⟩, (numF 6 281474976710655 (numF 6 4 st).2).1 + -1, (flagF (textF 61 (textF 60 (numF 6 281474976710655 (numF 6 4 st).2).2).2).2).1, (flagF (flagF (textF 61 (textF 60 (numF 6 281474976710655 (numF 6 4 st).2).2).2).2).2).1⟩, (flagF (flagF (textF 61 (textF 60 (numF 6 281474976710655 (numF 6 4 st).2).2).2).2).2).2)) := Lib.hid rfl
  generalize rdO st = Y at HRD ⊢
  generalize numF 6 4 st = A at q2 HC1 HC2 HC3 HC4 HC5 HC6 HRD
  generalize numF 6 281474976710655 A.2 = B at q2 HC2 HC3 HC4 HC5 HC6 HRD
  generalize textF 60 B.2 = C at HC3 HC4 HC5 HC6 HRD
  generalize textF 61 C.2 = D at HC4 HC5 HC6 HRD
  generalize flagF D.2 = E at HC5 HC6 HRD
  generalize flagF E.2 = F at HC6 HRD
  obtain ⟨va, sa⟩ := A
  obtain ⟨vb, sb⟩ := B
  obtain ⟨vc, sc⟩ := C
  obtain ⟨vd, sd⟩ := D
  obtain ⟨ve, se⟩ := E
  obtain ⟨vf, sf⟩ := F
  simp only at q2 HC1 HC2 HC3 HC4 HC5 HC6 HRD
  obtain ⟨tc, htc⟩ : ∃ tc : ByteArray, tc = ⟨vc.toArray⟩ := ⟨_, rfl⟩
  obtain ⟨td, htd⟩ : ∃ td : ByteArray, td = ⟨vd.toArray⟩ := ⟨_, rfl⟩
  rw [← htc] at HC3 HRD
  rw [← htd] at HC4 HRD
  have t3 : IntKind.i64.wrap (vb + -1) = vb + -1 := IntWalk.i64_in _ (by omega)
  have HN1 := Lib.hid N1
  clear C1 R1 N1 htc htd h
  go_enter Try.func24, Try.ntmps24
  go_wp2_with fail
  refine HC1.out.mono ?_
  rintro e w2 ⟨rfl, R2, g2⟩
  go_wp2_with fail
  refine (HC2.out _ R2).mono ?_
  rintro e w3 ⟨rfl, R3, g3⟩
  go_wp2_with fail
  refine (HC3.out _ R3).mono ?_
  rintro e w4 ⟨rfl, R4, g4⟩
  go_wp2_with fail
  refine (HC4.out _ R4).mono ?_
  rintro e w5 ⟨rfl, R5, g5⟩
  go_wp2_with fail
  refine (HC5.out _ R5).mono ?_
  rintro e w6 ⟨rfl, R6, g6⟩
  go_wp2_with fail
  refine (HC6.out _ R6).mono ?_
  rintro e w7 ⟨rfl, R7, g7⟩
  have gg := only_trans (only_trans (only_trans (only_trans (only_trans g2 g3) g4) g5) g6) g7
  have N7 := HN1.out.kept gg (fun e => by have := Option.some.inj e; omega)
  have G7 := only_trans g1 gg
  obtain ⟨⟨c0, c1, c2, c3, c4, c5⟩, f0, f1, f2, f3, f4, f5⟩ := N7.cells
  have HR7 := Lib.hid R7
  have NN := N7.set6 ⟨va, tc, td, vb + -1, ve, vf⟩
  have HNN := Lib.hid NN
  clear R2 R3 R4 R5 R6 R7 g2 g3 g4 g5 g6 g7 gg HC1 HC2 HC3 HC4 HC5 HC6 HN1 N7 g1 b1 NN
  go_wp2_with fail
  have hne : rb ≠ w.heap.size := by omega
  refine bodyPost_ret (readop_results _ _ w.heap.size ⟨va, tc, td, vb + -1, ve, vf⟩ rfl HNN.out) rfl ⟨by rw [HRD.out], ?_, only6 G7 (Nat.le_refl _) _ _ _ _ _ _⟩
  rw [HRD.out]
  exact (((((HR7.out.set hne).set hne).set hne).set hne).set hne).set hne
end Go.Proofs.Ytkdbkbfloiponaa
