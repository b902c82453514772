/- head.headOf, fresh, valid, recOf; no conditions beyond those in each statement. head.recOf and Head; no conditions beyond those in each statement. -/
import Derived.Test.YtigebaaldikeaaaDoorDevW
import Derived.Deep.RegionHeld3
import Derived.Deep.RegionWith
import Derived.Deep.DeepCutAuto
namespace Go.Proofs.YtigebaaldikeaaaDoor
section
open Go.RowKit
set_option linter.unusedVariables false
set_option maxRecDepth 100000

/-- A head's block: four cells. -/
def HdB (w : World) (b : Nat) (h : Hd) : Prop := w.heap[b]? = some (.cells #[.int .i64 h.term, .int .i64 h.vote, .int .i64 h.first, .int .i64 h.base] 23 (0, 0))
theorem HdB.cells {w : World} {b : Nat} {h : Hd} (k : HdB w b h) :
    (w.cell? ⟨b, 0, none⟩ = some (.int .i64 h.term) ∧ w.cell? ⟨b, 1, none⟩ = some (.int .i64 h.vote) ∧ w.cell? ⟨b, 2, none⟩ = some (.int .i64 h.first) ∧ w.cell? ⟨b, 3, none⟩ = some (.int .i64 h.base)) ∧
    w.frozen? ⟨b, 0, none⟩ = false ∧ w.frozen? ⟨b, 1, none⟩ = false ∧ w.frozen? ⟨b, 2, none⟩ = false ∧ w.frozen? ⟨b, 3, none⟩ = false :=
  ⟨⟨cell_of k rfl, cell_of k rfl, cell_of k rfl, cell_of k rfl⟩, free_of k, free_of k, free_of k, free_of k⟩
theorem HdB.lt {w : World} {b : Nat} {h : Hd} (k : HdB w b h) : b < w.heap.size := lt_of_block k
theorem HdB.below {w w' : World} {b : Nat} {h : Hd} (k : HdB w b h) (hb : Below w.heap.size w w') : HdB w' b h := (hb.block b k.lt).trans k
theorem HdB.kept {w w' : World} {b : Nat} {h : Hd} {row : Option Nat} (k : HdB w b h) (hg : w.grownBy w' row) (hr : some b ≠ row) : HdB w' b h := (hg.block b k.lt hr).trans k
theorem HdB.keep {E : Nat → Prop} {w w' : World} {b : Nat} {h : Hd} (k : HdB w b h) (hk : Kept E w w') (hb : E b) : HdB w' b h := (hk b hb).trans k
theorem HdB.new (w : World) (h : Hd) : HdB (w.alloc (.cells #[.int .i64 h.term, .int .i64 h.vote, .int .i64 h.first, .int .i64 h.base] 23)) w.heap.size h := heap_alloc_new w _
theorem hd_kept0 {W w' : World} {R : Nat} (hg : (W.alloc (.cells #[.int .i64 0, .int .i64 0, .int .i64 0, .int .i64 0] 23)).grownBy w' (some R)) (hR : R < W.heap.size) : HdB w' W.heap.size ⟨0, 0, 0, 0⟩ :=
  HdB.kept (HdB.new W ⟨0, 0, 0, 0⟩) hg (by simp; omega)
theorem hd_ne {R g : Nat} (h : R < g) : some g ≠ some R := by simp; omega
theorem hd_ne' {n g : Nat} (h : n + 1 + 1 < g) : ¬ g = n := by omega
theorem hd_ne'' {n g : Nat} (h : n + 1 + 1 < g) : ¬ n = g := by omega
def setHd (W : World) (b : Nat) (h : Hd) : World :=
  (((W.setCell ⟨b, 0, none⟩ (.int .i64 h.term)).setCell ⟨b, 1, none⟩ (.int .i64 h.vote)).setCell ⟨b, 2, none⟩ (.int .i64 h.first)).setCell ⟨b, 3, none⟩ (.int .i64 h.base)
theorem HdB.set {W : World} {b : Nat} {h0 : Hd} (k : HdB W b h0) (h : Hd) : HdB (setHd W b h) b h :=
  block_setCell (i := 3) (u := .int .i64 h.base) (block_setCell (i := 2) (u := .int .i64 h.first) (block_setCell (i := 1) (u := .int .i64 h.vote) (block_setCell (i := 0) (u := .int .i64 h.term) k)))
theorem below_hd {B : Nat} {a W : World} {b : Nat} (k : Below B a W) (hb : B ≤ b) (h : Hd) : Below B a (setHd W b h) :=
  (((k.setCell (p := ⟨b, 0, none⟩) hb _).setCell (p := ⟨b, 1, none⟩) hb _).setCell (p := ⟨b, 2, none⟩) hb _).setCell (p := ⟨b, 3, none⟩) hb _

theorem Rs.belowB {w w' : World} {b B : Nat} {st : RS} (h : Rs w b st) (k : Below B w w') (hb : b < B) : Rs w' b st := by
  cases st with
  | none => exact (k.block b hb).trans h
  | some l => exact ⟨(k.block b hb).trans h.1, h.2⟩
theorem hd_end {a w : World} {n g : Nat} {q z y : Hd} {sc : RS} (hG : HdB w g z) (hH : HdB w (n + 1) y) (hS : Rs w (n + 1 + 1) sc) (hB : Below n a w) (hg : n + 1 + 1 < g) :
    ∃ g' : Nat, Value.pointer (some ⟨g, 0, none⟩) = .pointer (some ⟨g', 0, none⟩) ∧
      HdB ((((w.setCell ⟨g, 0, none⟩ (.int .i64 q.term)).setCell ⟨g, 1, none⟩ (.int .i64 q.vote)).setCell ⟨g, 2, none⟩ (.int .i64 q.first)).setCell ⟨g, 3, none⟩ (.int .i64 q.base)) g' q ∧
      HdB ((((w.setCell ⟨g, 0, none⟩ (.int .i64 q.term)).setCell ⟨g, 1, none⟩ (.int .i64 q.vote)).setCell ⟨g, 2, none⟩ (.int .i64 q.first)).setCell ⟨g, 3, none⟩ (.int .i64 q.base)) (n + 1) y ∧
      Rs ((((w.setCell ⟨g, 0, none⟩ (.int .i64 q.term)).setCell ⟨g, 1, none⟩ (.int .i64 q.vote)).setCell ⟨g, 2, none⟩ (.int .i64 q.first)).setCell ⟨g, 3, none⟩ (.int .i64 q.base)) (n + 1 + 1) sc ∧
      Below n a ((((w.setCell ⟨g, 0, none⟩ (.int .i64 q.term)).setCell ⟨g, 1, none⟩ (.int .i64 q.vote)).setCell ⟨g, 2, none⟩ (.int .i64 q.first)).setCell ⟨g, 3, none⟩ (.int .i64 q.base)) := by
  have k : Below g w (setHd w g q) := below_hd (Below.refl g w) (Nat.le_refl _) q
  exact ⟨g, rfl, hG.set q, (k.block _ (by omega)).trans hH, hS.belowB k (by omega), below_hd hB (by omega) q⟩
theorem hd_end1 {a w : World} {n : Nat} {q y : Hd} {sc : RS} (hH : HdB w (n + 1) y) (hS : Rs w (n + 1 + 1) sc) (hB : Below n a w) (hg : n + 1 + 1 < w.heap.size) :
    ∃ g' : Nat, Value.pointer (some ⟨w.heap.size, 0, none⟩) = .pointer (some ⟨g', 0, none⟩) ∧
      HdB (w.alloc (.cells #[.int .i64 q.term, .int .i64 q.vote, .int .i64 q.first, .int .i64 q.base] 23)) g' q ∧
      HdB (w.alloc (.cells #[.int .i64 q.term, .int .i64 q.vote, .int .i64 q.first, .int .i64 q.base] 23)) (n + 1) y ∧
      Rs (w.alloc (.cells #[.int .i64 q.term, .int .i64 q.vote, .int .i64 q.first, .int .i64 q.base] 23)) (n + 1 + 1) sc ∧
      Below n a (w.alloc (.cells #[.int .i64 q.term, .int .i64 q.vote, .int .i64 q.first, .int .i64 q.base] 23)) := by
  have k := (Below.refl w.heap.size w).alloc (Nat.le_refl _) (.cells #[.int .i64 q.term, .int .i64 q.vote, .int .i64 q.first, .int .i64 q.base] 23)
  exact ⟨_, rfl, HdB.new w q, hH.below k, hS.below k, hB.alloc (by omega) _⟩
/-- A store's block: the device, and the copy that it keeps. -/
def StB (w : World) (b B : Nat) (L : Rc) : Prop := w.heap[b]? = some (.cells #[.pointer (some ⟨B, 0, none⟩), .int .i64 L.kind, .int .i64 L.index, .int .i64 L.term, .string L.data] 80 (0, 0))
theorem StB.cells {w : World} {b B : Nat} {L : Rc} (h : StB w b B L) :
    (w.cell? ⟨b, 0, none⟩ = some (.pointer (some ⟨B, 0, none⟩)) ∧ w.cell? ⟨b, 1, none⟩ = some (.int .i64 L.kind) ∧ w.cell? ⟨b, 2, none⟩ = some (.int .i64 L.index) ∧ w.cell? ⟨b, 3, none⟩ = some (.int .i64 L.term) ∧ w.cell? ⟨b, 4, none⟩ = some (.string L.data)) ∧
    w.frozen? ⟨b, 1, none⟩ = false ∧ w.frozen? ⟨b, 2, none⟩ = false ∧ w.frozen? ⟨b, 3, none⟩ = false ∧ w.frozen? ⟨b, 4, none⟩ = false :=
  ⟨⟨cell_of h rfl, cell_of h rfl, cell_of h rfl, cell_of h rfl, cell_of h rfl⟩, free_of h, free_of h, free_of h, free_of h⟩
theorem StB.lt {w : World} {b B : Nat} {L : Rc} (h : StB w b B L) : b < w.heap.size := lt_of_block h
theorem StB.below {w w' : World} {b B : Nat} {L : Rc} (h : StB w b B L) (k : Below w.heap.size w w') : StB w' b B L := (k.block b h.lt).trans h
theorem StB.keep {E : Nat → Prop} {w w' : World} {b B : Nat} {L : Rc} (h : StB w b B L) (k : Kept E w w') (hb : E b) : StB w' b B L := (k b hb).trans h
theorem StB.new (w : World) (B : Nat) (L : Rc) : StB (w.alloc (.cells #[.pointer (some ⟨B, 0, none⟩), .int .i64 L.kind, .int .i64 L.index, .int .i64 L.term, .string L.data] 80)) w.heap.size B L := heap_alloc_new w _
def setSt (W : World) (b : Nat) (r : Rc) : World :=
  (((W.setCell ⟨b, 1, none⟩ (.int .i64 r.kind)).setCell ⟨b, 2, none⟩ (.int .i64 r.index)).setCell ⟨b, 3, none⟩ (.int .i64 r.term)).setCell ⟨b, 4, none⟩ (.string r.data)
theorem StB.set {W : World} {b B : Nat} {L : Rc} (h : StB W b B L) (r : Rc) : StB (setSt W b r) b B r :=
  block_setCell (i := 4) (u := .string r.data) (block_setCell (i := 3) (u := .int .i64 r.term) (block_setCell (i := 2) (u := .int .i64 r.index) (block_setCell (i := 1) (u := .int .i64 r.kind) h)))
theorem below_st {B : Nat} {a W : World} {b : Nat} (k : Below B a W) (hb : B ≤ b) (r : Rc) : Below B a (setSt W b r) :=
  (((k.setCell (p := ⟨b, 1, none⟩) hb _).setCell (p := ⟨b, 2, none⟩) hb _).setCell (p := ⟨b, 3, none⟩) hb _).setCell (p := ⟨b, 4, none⟩) hb _
theorem setSt_other {W : World} {b : Nat} {r : Rc} {k : Nat} (h : k ≠ b) : (setSt W b r).heap[k]? = W.heap[k]? := by
  unfold setSt
  rw [block_setCell_other h, block_setCell_other h, block_setCell_other h, block_setCell_other h]
theorem setSt_size {W : World} {b : Nat} {r : Rc} : (setSt W b r).heap.size = W.heap.size := by simp [setSt, World.setCell]

set_option maxHeartbeats 1000000 in
theorem fresh_any (b B : Nat) (L : Rc) (w : World) (h : StB w b B L) (BQ : Bool) (hB : BQ = true ↔ L = rc0) :
    Calls Tryd.prog 34 #[.pointer (some ⟨b, 0, none⟩)] w fun e w' => e = .returned (.bool BQ) ∧ w = w' := by
  obtain ⟨⟨c0, c1, c2, c3, c4⟩, _⟩ := h.cells
  have heq := eq_rec L rc0 BQ hB
  unfold recV rc0 at heq
  simp only at heq
  go_enter Tryd.func34, Tryd.ntmps34
  go_wp2
  go_ret
  exact ⟨rfl, rfl⟩

set_option maxHeartbeats 4000000 in
theorem valid_any (h : Hd) (w : World) (BQ : Bool) (hB : BQ = true ↔ h.Ok) :
    Calls Tryd.prog 62 #[headV h] w fun e w' => e = .returned (.bool BQ) ∧ Below w.heap.size w w' := by
  have n0 := HdB.new w h
  obtain ⟨⟨c0, c1, c2, c3⟩, _⟩ := n0.cells
  have b0 := (Below.refl _ w).alloc (Nat.le_refl _) (.cells #[.int .i64 h.term, .int .i64 h.vote, .int .i64 h.first, .int .i64 h.base] 23)
  unfold headV
  by_cases hq : h.base ≤ 281474976710655
  · have eq : decide (h.base ≤ 281474976710655) = true := by simpa using hq
    go_enter Tryd.func62, Tryd.ntmps62
    go_wp2
    all_goals
      go_ret
      refine ⟨?_, b0⟩
      first
        | (have ho : h.Ok := ⟨by omega, by omega, by omega, by omega⟩
           rw [hB.2 ho]
           try rfl)
        | (have ho : ¬ h.Ok := fun o => by
             have o1 := o.term
             have o2 := o.vote
             have o3 := o.first
             have o4 := o.base
             omega
           rw [show BQ = false by rw [← Bool.not_eq_true, hB]; exact ho]
           try rfl)
  · have eq : decide (h.base ≤ 281474976710655) = false := by simpa using hq
    go_enter Tryd.func62, Tryd.ntmps62
    go_wp2
    all_goals
      go_ret
      refine ⟨?_, b0⟩
      first
        | (have ho : h.Ok := ⟨by omega, by omega, by omega, by omega⟩
           rw [hB.2 ho]
           try rfl)
        | (have ho : ¬ h.Ok := fun o => by
             have o1 := o.term
             have o2 := o.vote
             have o3 := o.first
             have o4 := o.base
             omega
           rw [show BQ = false by rw [← Bool.not_eq_true, hB]; exact ho]
           try rfl)

/-- What headOf answers, as a value. -/
def headOfV (x : Hd × Bool) : Value := .tuple #[headV x.1, .bool x.2]
theorem hret (A : Act) (W : World) (b : Nat) (n : Bool) (h : Hd) (Q : Ending → World → Prop) (h2 : A.tmps.getD 2 undef = .pointer (some ⟨b, 0, none⟩)) (h3 : A.tmps.getD 3 undef = .bool n) (hd : A.defers = []) (hr : HdB W b h)
    (hq : Q (.returned (headOfV (h, n))) W) : bodyPost Tryd.prog Tryd.f33 Q Exit.ret A W := by
  obtain ⟨⟨c0, c1, c2, c3⟩, _⟩ := hr.cells
  have e2 : A.tmps[2]?.getD undef = .pointer (some ⟨b, 0, none⟩) := by simpa using h2
  have e3 : A.tmps[3]?.getD undef = .bool n := by simpa using h3
  exact bodyPost_ret (v := headOfV (h, n)) (by simp [results, Tryd.results33, go_sem, headOfV, headV, e2, e3, c0, c1, c2, c3]) hd hq

set_option maxHeartbeats 4000000 in
theorem headOf_other (r : Rc) (w : World) (hk : r.kind ≠ 1) :
    Calls Tryd.prog 33 #[recV r] w fun e w' => e = .returned (headOfV (hd0, false)) ∧ Below w.heap.size w w' := by
  have e1 : (r.kind != 1) = true := by simpa using hk
  have n0' := RecB.new w r
  have b0' := (Below.refl _ w).alloc (Nat.le_refl _) (.cells #[.int .i64 r.kind, .int .i64 r.index, .int .i64 r.term, .string r.data] 72)
  have b1 := (Below.refl (w.alloc (.cells #[.int .i64 r.kind, .int .i64 r.index, .int .i64 r.term, .string r.data] 72)).heap.size _).alloc (Nat.le_refl _) (.cells #[.int .i64 hd0.term, .int .i64 hd0.vote, .int .i64 hd0.first, .int .i64 hd0.base] 23)
  have n0 := n0'.below b1
  have n1 := HdB.new (w.alloc (.cells #[.int .i64 r.kind, .int .i64 r.index, .int .i64 r.term, .string r.data] 72)) hd0
  rw [World.size_alloc] at n1
  have B0 := b0'.trans (b1.mono b0'.size)
  obtain ⟨⟨c0, c1, c2, c3⟩, _⟩ := n0.cells
  obtain ⟨⟨d0, d1, d2, d3⟩, _⟩ := n1.cells
  unfold recV
  unfold hd0 at *
  simp only at *
  clear hk b0' b1 n0'
  go_enter Tryd.func33, Tryd.ntmps33
  go_wp2
  exact hret _ _ _ false ⟨0, 0, 0, 0⟩ _ rfl rfl rfl n1 ⟨rfl, B0⟩

set_option maxHeartbeats 4000000 in
theorem headOf_one (r : Rc) (w : World) (hk : r.kind = 1) (hs : r.data.size ≤ 140737488355328) :
    Calls Tryd.prog 33 #[recV r] w fun e w' => e = .returned (headOfV (headF r)) ∧ Below w.heap.size w w' := by
  obtain ⟨t, ht⟩ : ∃ t, t = r.data.data.toList := ⟨_, rfl⟩
  have htl : t.length ≤ 140737488355328 := by rw [ht, ← Lib.size_eq]; exact hs
  have hdt : r.data = ⟨t.toArray⟩ := by rw [ht]
  have HNA := Lib.hid (fun (b : Nat) (W : World) (hW : Rs W b (some t)) => show Calls Tryd.prog 60 #[.pointer (some ⟨b, 0, none⟩), .int .i64 7] W fun e w' => e = .returned (.int .i64 (pa t).1) ∧ Rs w' b (pa t).2 ∧ W.grownBy w' (some b) from num_rs b 7 (some t) W hW)
  have HNB := Lib.hid (fun (b : Nat) (W : World) (hW : Rs W b (pa t).2) => show Calls Tryd.prog 60 #[.pointer (some ⟨b, 0, none⟩), .int .i64 281474976710655] W fun e w' => e = .returned (.int .i64 (pb t).1) ∧ Rs w' b (pb t).2 ∧ W.grownBy w' (some b) from num_rs b 281474976710655 _ W hW)
  have HNC := Lib.hid (fun (b : Nat) (W : World) (hW : Rs W b (pb t).2) => show Calls Tryd.prog 60 #[.pointer (some ⟨b, 0, none⟩), .int .i64 281474976710655] W fun e w' => e = .returned (.int .i64 (pc t).1) ∧ Rs w' b (pc t).2 ∧ W.grownBy w' (some b) from num_rs b 281474976710655 _ W hW)
  have HRD := Lib.hid (fun (W : World) => pread_any ⟨t.toArray⟩ W)
  have HRS := Lib.hid (fun (W : World) (b : Nat) (h : RdB W b ⟨t.toArray⟩ false) => show Rs W b (some t) from ⟨h, htl⟩)
  obtain ⟨V, hV⟩ : ∃ V, V = headF r := ⟨_, rfl⟩
  rw [← hV]
  unfold headF at hV
  rw [if_pos hk, ← ht] at hV
  obtain ⟨q, hq⟩ : ∃ q : Hd, q = ⟨r.term, (pa t).1, (pb t).1, (pc t).1⟩ := ⟨_, rfl⟩
  rw [← hq] at hV
  have q0 : r.term = q.term := by rw [hq]
  have q1 : (pa t).1 = q.vote := by rw [hq]
  have q2 : (pb t).1 = q.first := by rw [hq]
  have q3 : (pc t).1 = q.base := by rw [hq]
  rw [q1] at HNA
  rw [q2] at HNB
  rw [q3] at HNC
  have HVP := Lib.hid (fun (h : doneF (pc t).2 = 0) => show V = (q, true) by rw [hV, if_pos h])
  have HVN := Lib.hid (fun (h : ¬ doneF (pc t).2 = 0) => show V = (hd0, false) by rw [hV, if_neg h])
  clear hV hq q1 q2 q3 ht
  generalize (pa t).2 = sa at *
  generalize (pb t).2 = sb at *
  generalize (pc t).2 = sc at *
  rw [← hdt] at HRD HRS
  clear hdt
  obtain ⟨k, i, tm, d⟩ := r
  simp only at hk q0 hs
  subst hk q0
  have n0' := RecB.new w ⟨1, i, q.term, d⟩
  have b0' := (Below.refl _ w).alloc (Nat.le_refl _) (.cells #[.int .i64 1, .int .i64 i, .int .i64 q.term, .string d] 72)
  have b1 := (Below.refl (w.alloc (.cells #[.int .i64 1, .int .i64 i, .int .i64 q.term, .string d] 72)).heap.size _).alloc (Nat.le_refl _) (.cells #[.int .i64 hd0.term, .int .i64 hd0.vote, .int .i64 hd0.first, .int .i64 hd0.base] 23)
  have n0 := n0'.below b1
  have n1 := HdB.new (w.alloc (.cells #[.int .i64 1, .int .i64 i, .int .i64 q.term, .string d] 72)) hd0
  rw [World.size_alloc] at n1
  have B0 := b0'.trans (b1.mono b0'.size)
  obtain ⟨⟨c0, c1, c2, c3⟩, _⟩ := n0.cells
  unfold recV
  unfold hd0 at n1 n0 B0 c0 c1 c2 c3
  simp only at n1 n0 B0 c0 c1 c2 c3 HRD HRS
  clear b0' b1 n0'
  go_enter Tryd.func33, Tryd.ntmps33
  go_wp2_with fail
  refine (HRD.out _).mono ?_
  rintro e w2 ⟨rfl, hrd, hb2, hs2⟩
  have S2 := HRS.out _ _ hrd
  have R2 := n0.below hb2
  have H2 := n1.below hb2
  have hne0 : some w.heap.size ≠ some (w.heap.size + 1 + 1) := by simp; omega
  have hne1 : some (w.heap.size + 1) ≠ some (w.heap.size + 1 + 1) := by simp
  have B2 := B0.trans (hb2.mono B0.size)
  obtain ⟨⟨c0, c1, c2, c3⟩, _⟩ := R2.cells
  clear hrd HRD HRS n0 n1 B0
  have hRs : ((w.alloc (.cells #[.int .i64 1, .int .i64 i, .int .i64 q.term, .string d] 72)).alloc (.cells #[.int .i64 0, .int .i64 0, .int .i64 0, .int .i64 0] 23)).heap.size = w.heap.size + 1 + 1 := by simp
  rw [hRs] at S2 hb2 hs2
  clear hRs
  have z2 : w.heap.size + 1 + 1 < w2.heap.size := by omega
  clear hs2
  have ZZ2 : w.heap.size + 1 + 1 < w2.drew.heap.size := z2
  have BA := ((Below.refl w2.heap.size w2).alloc (Nat.le_refl _) (.cells #[.int .i64 0, .int .i64 0, .int .i64 0, .int .i64 0] 23)).drew
  have SA : Rs (w2.alloc (.cells #[.int .i64 0, .int .i64 0, .int .i64 0, .int .i64 0] 23)).drew (w.heap.size + 1 + 1) (some t) := S2.below BA
  have RA : RecB (w2.alloc (.cells #[.int .i64 0, .int .i64 0, .int .i64 0, .int .i64 0] 23)).drew w.heap.size ⟨1, i, q.term, d⟩ := R2.below BA
  have HA : HdB (w2.alloc (.cells #[.int .i64 0, .int .i64 0, .int .i64 0, .int .i64 0] 23)).drew (w.heap.size + 1) ⟨0, 0, 0, 0⟩ := H2.below BA
  have GA : HdB (w2.alloc (.cells #[.int .i64 0, .int .i64 0, .int .i64 0, .int .i64 0] 23)).drew w2.heap.size ⟨0, 0, 0, 0⟩ := HdB.new w2 ⟨0, 0, 0, 0⟩
  have B2d : Below w.heap.size w w2.drew := B2.drew
  have BA2 : Below w.heap.size w (w2.alloc (.cells #[.int .i64 0, .int .i64 0, .int .i64 0, .int .i64 0] 23)).drew := (B2.alloc B2.size _).drew
  have hrow : ∀ k, some (w.heap.size + 1 + 1) = some k → w.heap.size ≤ k := fun k hk => by obtain rfl := Option.some.inj hk; omega
  have S2 : Rs w2.drew (w.heap.size + 1 + 1) (some t) := S2
  have R2 : RecB w2.drew w.heap.size ⟨1, i, q.term, d⟩ := R2
  have H2 : HdB w2.drew (w.heap.size + 1) ⟨0, 0, 0, 0⟩ := H2
  go_upto_region 4 with fail
  go_cut [5] (fun t wx => ∃ g : Nat, t = .pointer (some ⟨g, 0, none⟩) ∧ HdB wx g q ∧ HdB wx (w.heap.size + 1) ⟨0, 0, 0, 0⟩ ∧ Rs wx (w.heap.size + 1 + 1) sc ∧ Below w.heap.size w wx)
  case first =>
    go_region_held3 (fun w' => w'.cell? ⟨w.heap.size, 2, none⟩ = some (.int .i64 q.term)) (first | (with_reducible assumption) | go_keep)
      (first
        | (have hS := S4; go_at_call 60; refine (HNC.out (w.heap.size + 1 + 1) _ ?hS).mono ?_; (case hS => first | (with_reducible exact S4) | (with_reducible exact (S4.below ((Below.refl _ w4).alloc (Nat.le_refl _) _)))); rintro e w5 ⟨rfl, S5, hg5⟩; have z5 := hg5.size; have ZZ5 : w.heap.size + 1 + 1 < w5.heap.size := Nat.lt_of_lt_of_le (by first | (with_reducible exact ZZ4) | exact Nat.lt_of_lt_of_le ZZ4 (by simp)) z5; have R5 : RecB w5 w.heap.size ⟨1, i, q.term, d⟩ := (by first | (with_reducible exact RecB.kept R4 hg5 hne0) | (with_reducible exact RecB.kept (R4.below ((Below.refl _ w4).alloc (Nat.le_refl _) _)) hg5 hne0)); have H5 : HdB w5 (w.heap.size + 1) ⟨0, 0, 0, 0⟩ := (by first | (with_reducible exact HdB.kept H4 hg5 hne1) | (with_reducible exact HdB.kept (H4.below ((Below.refl _ w4).alloc (Nat.le_refl _) _)) hg5 hne1)); have B5 : Below w.heap.size w w5 := (by first | (with_reducible exact (Below.grown B4 hg5 B4.size hrow)) | (with_reducible exact (Below.grown (B4.alloc B4.size _) hg5 (B4.alloc B4.size _).size hrow))); (first | (have G5 : HdB w5 _ ⟨0, 0, 0, 0⟩ := (by with_reducible exact HdB.kept G4 hg5 GN4); have GN5 := GN4; obtain ⟨⟨g0, g1, g2, g3⟩, k0, k1, k2, k3⟩ := G5.cells) | (have G5 : HdB w5 w4.heap.size ⟨0, 0, 0, 0⟩ := (by with_reducible exact hd_kept0 hg5 ZZ4); have GN5 := hd_ne ZZ4; have u1 := hd_ne' ZZ4; have u2 := hd_ne'' ZZ4; obtain ⟨⟨g0, g1, g2, g3⟩, k0, k1, k2, k3⟩ := G5.cells) | (have _chk : World.grownBy w4 w5 (some _) := (by with_reducible exact hg5))); obtain ⟨⟨_, _, c2, _⟩, _⟩ := R5.cells)
        | (have hS := S3; go_at_call 60; refine (HNB.out (w.heap.size + 1 + 1) _ ?hS).mono ?_; (case hS => first | (with_reducible exact S3) | (with_reducible exact (S3.below ((Below.refl _ w3).alloc (Nat.le_refl _) _)))); rintro e w4 ⟨rfl, S4, hg4⟩; have z4 := hg4.size; have ZZ4 : w.heap.size + 1 + 1 < w4.heap.size := Nat.lt_of_lt_of_le (by first | (with_reducible exact ZZ3) | exact Nat.lt_of_lt_of_le ZZ3 (by simp)) z4; have R4 : RecB w4 w.heap.size ⟨1, i, q.term, d⟩ := (by first | (with_reducible exact RecB.kept R3 hg4 hne0) | (with_reducible exact RecB.kept (R3.below ((Below.refl _ w3).alloc (Nat.le_refl _) _)) hg4 hne0)); have H4 : HdB w4 (w.heap.size + 1) ⟨0, 0, 0, 0⟩ := (by first | (with_reducible exact HdB.kept H3 hg4 hne1) | (with_reducible exact HdB.kept (H3.below ((Below.refl _ w3).alloc (Nat.le_refl _) _)) hg4 hne1)); have B4 : Below w.heap.size w w4 := (by first | (with_reducible exact (Below.grown B3 hg4 B3.size hrow)) | (with_reducible exact (Below.grown (B3.alloc B3.size _) hg4 (B3.alloc B3.size _).size hrow))); (first | (have G4 : HdB w4 _ ⟨0, 0, 0, 0⟩ := (by with_reducible exact HdB.kept G3 hg4 GN3); have GN4 := GN3; obtain ⟨⟨g0, g1, g2, g3⟩, k0, k1, k2, k3⟩ := G4.cells) | (have G4 : HdB w4 w3.heap.size ⟨0, 0, 0, 0⟩ := (by with_reducible exact hd_kept0 hg4 ZZ3); have GN4 := hd_ne ZZ3; have u1 := hd_ne' ZZ3; have u2 := hd_ne'' ZZ3; obtain ⟨⟨g0, g1, g2, g3⟩, k0, k1, k2, k3⟩ := G4.cells) | (have _chk : World.grownBy w3 w4 (some _) := (by with_reducible exact hg4))); obtain ⟨⟨_, _, c2, _⟩, _⟩ := R4.cells)
        | (have hS := S2; go_at_call 60; refine (HNA.out (w.heap.size + 1 + 1) _ ?hS).mono ?_; (case hS => first | (with_reducible exact S2) | (with_reducible exact SA)); rintro e w3 ⟨rfl, S3, hg3⟩; have z3 := hg3.size; have ZZ3 : w.heap.size + 1 + 1 < w3.heap.size := Nat.lt_of_lt_of_le (by first | (with_reducible exact ZZ2) | exact Nat.lt_of_lt_of_le ZZ2 (by simp)) z3; have R3 : RecB w3 w.heap.size ⟨1, i, q.term, d⟩ := (by first | (with_reducible exact RecB.kept R2 hg3 hne0) | (with_reducible exact RecB.kept RA hg3 hne0)); have H3 : HdB w3 (w.heap.size + 1) ⟨0, 0, 0, 0⟩ := (by first | (with_reducible exact HdB.kept H2 hg3 hne1) | (with_reducible exact HdB.kept HA hg3 hne1)); have B3 : Below w.heap.size w w3 := (by first | (with_reducible exact (Below.grown B2d hg3 B2d.size hrow)) | (with_reducible exact (Below.grown BA2 hg3 BA2.size hrow))); (first | (have G3 : HdB w3 w2.heap.size ⟨0, 0, 0, 0⟩ := (by with_reducible exact HdB.kept GA hg3 (hd_ne z2)); have GN3 := hd_ne z2; have u1 := hd_ne' z2; have u2 := hd_ne'' z2; obtain ⟨⟨g0, g1, g2, g3⟩, k0, k1, k2, k3⟩ := G3.cells) | (have _chk : World.grownBy w2.drew w3 (some _) := (by with_reducible exact hg3))); obtain ⟨⟨_, _, c2, _⟩, _⟩ := R3.cells))
    all_goals (go_wp2_with fail; go_meet)
    all_goals first
      | (with_reducible exact hd_end1 H5 S5 B5 ZZ5)
      | (with_reducible exact hd_end G5 H5 S5 B5 z2)
      | (with_reducible exact hd_end G5 H5 S5 B5 ZZ3)
      | (with_reducible exact hd_end G5 H5 S5 B5 ZZ4)
  case rest =>
    obtain ⟨g, rfl, hG, hH, hS, hB⟩ := hcut
    have HD := Lib.hid (done_rs _ sc _ hS)
    obtain ⟨⟨g0, g1, g2, g3⟩, _⟩ := hG.cells
    obtain ⟨⟨h0, h1, h2, h3⟩, k0, k1, k2, k3⟩ := hH.cells
    clear SA RA HA GA BA BA2 S2 R2 H2 B2 B2d hS
    by_cases hz : doneF sc = 0
    · have HV := Lib.hid (HVP.out hz)
      rw [hz] at HD
      have B8 := below_hd hB (show w.heap.size ≤ w.heap.size + 1 by omega) q
      clear hz
      go_wp2_with (go_at_call 61; refine HD.out.mono ?_; rintro e w' ⟨rfl, rfl⟩)
      exact hret _ (setHd _ (w.heap.size + 1) q) _ true q _ rfl rfl rfl (hH.set q) ⟨by rw [HV.out], B8⟩
    · have HV := Lib.hid (HVN.out hz)
      have hzz : (doneF sc == 0) = false := by simpa using hz
      have B8 := below_hd hB (show w.heap.size ≤ w.heap.size + 1 by omega) hd0
      clear hz
      go_wp2_with (go_at_call 61; refine HD.out.mono ?_; rintro e w' ⟨rfl, rfl⟩)
      exact hret _ (setHd _ (w.heap.size + 1) hd0) _ false hd0 _ rfl rfl rfl (hH.set hd0) ⟨by rw [HV.out], B8⟩

/-- headOf, whatever the record. -/
theorem headOf_any (r : Rc) (w : World) (hs : r.data.size ≤ 140737488355328) :
    Calls Tryd.prog 33 #[recV r] w fun e w' => e = .returned (headOfV (headF r)) ∧ Below w.heap.size w w' := by
  by_cases hk : r.kind = 1
  · exact headOf_one r w hk hs
  · rw [show headF r = (hd0, false) by unfold headF; rw [if_neg hk]]
    exact headOf_other r w hk
end
section
open Go.RowKit
set_option linter.unusedVariables false
set_option maxRecDepth 100000

theorem rret (A : Act) (W : World) (b : Nat) (r : Rc) (Q : Ending → World → Prop) (h2 : A.tmps.getD 4 undef = .pointer (some ⟨b, 0, none⟩)) (hd : A.defers = []) (hr : RecB W b r)
    (hq : Q (.returned (recV r)) W) : bodyPost Tryd.prog Tryd.f63 Q Exit.ret A W := by
  obtain ⟨⟨c0, c1, c2, c3⟩, _⟩ := hr.cells
  have e2 : A.tmps[4]?.getD undef = .pointer (some ⟨b, 0, none⟩) := by simpa using h2
  exact bodyPost_ret (v := recV r) (by simp [results, Tryd.results63, go_sem, recV, e2, c0, c1, c2, c3]) hd hq

set_option maxHeartbeats 4000000 in
theorem recOf_any (h : Hd) (i : Int) (w : World) (hf : h.Fits) :
    Calls Tryd.prog 63 #[headV h, .int .i64 i] w fun e w' => e = .returned (recV (copyR h i)) ∧ Below w.heap.size w w' := by
  have HN3 := Lib.hid (fun (g : Nat) (W : World) (hg : g < W.heap.size) => num_three h.vote h.first h.base g W hg hf.vote hf.first hf.base)
  have n0' := HdB.new w h
  have b0' := (Below.refl _ w).alloc (Nat.le_refl _) (.cells #[.int .i64 h.term, .int .i64 h.vote, .int .i64 h.first, .int .i64 h.base] 23)
  have b1 := (Below.refl (w.alloc (.cells #[.int .i64 h.term, .int .i64 h.vote, .int .i64 h.first, .int .i64 h.base] 23)).heap.size _).alloc (Nat.le_refl _) (.cells #[.int .i64 0, .int .i64 0, .int .i64 0, .string ⟨#[]⟩] 72)
  have n0 := n0'.below b1
  have r0 := RecB.new (w.alloc (.cells #[.int .i64 h.term, .int .i64 h.vote, .int .i64 h.first, .int .i64 h.base] 23)) ⟨0, 0, 0, ⟨#[]⟩⟩
  rw [World.size_alloc] at r0
  simp only at r0
  have B0 := b0'.trans (b1.mono b0'.size)
  obtain ⟨⟨c0, c1, c2, c3⟩, _⟩ := n0.cells
  clear b0' b1 n0' hf
  unfold headV
  go_enter Tryd.func63, Tryd.ntmps63
  go_wp2_with fail
  have b3 := (Below.refl ((w.alloc (.cells #[.int .i64 h.term, .int .i64 h.vote, .int .i64 h.first, .int .i64 h.base] 23)).alloc (.cells #[.int .i64 0, .int .i64 0, .int .i64 0, .string ⟨#[]⟩] 72)).heap.size _).alloc (Nat.le_refl _) (.cells #[.int .i64 h.vote, .int .i64 h.first, .int .i64 h.base] 3)
  have q := heap_alloc_new ((w.alloc (.cells #[.int .i64 h.term, .int .i64 h.vote, .int .i64 h.first, .int .i64 h.base] 23)).alloc (.cells #[.int .i64 0, .int .i64 0, .int .i64 0, .string ⟨#[]⟩] 72)) (.cells #[.int .i64 h.vote, .int .i64 h.first, .int .i64 h.base] 3)
  simp only [World.size_alloc] at q
  have n3 := n0.below b3
  have r3 := r0.below b3
  have B3 := B0.trans (b3.mono B0.size)
  refine (HN3.out (w.heap.size + 1 + 1) _ (by simp) (cell_of q rfl) (cell_of q rfl) (cell_of q rfl)).mono ?_
  rintro e w1 ⟨v1, rfl, ho1, hb1⟩
  have n4 := n3.below hb1
  have r4 := r3.below hb1
  have B4 := B3.trans (hb1.mono B3.size)
  have hcv := run_str ho1.src
  have HX := Lib.hid (show ByteArray.mk (numsE [h.vote, h.first, h.base]).toArray = (copyR h i).data from rfl)
  rw [HX.out] at hcv
  obtain ⟨⟨c0, c1, c2, c3⟩, _⟩ := n4.cells
  obtain ⟨⟨d0, d1, d2, d3⟩, f0, f1, f2, f3⟩ := r4.cells
  have B5 := below_rec B4 (show w.heap.size ≤ w.heap.size + 1 by omega) (copyR h i)
  clear ho1 hb1 q b3 n0 n3 r0 r3 B0 B3 HX
  go_wp2_with fail
  exact rret _ (setRec w1 (w.heap.size + 1) (copyR h i)) _ (copyR h i) _ rfl rfl (r4.set (copyR h i)) ⟨rfl, B5⟩

theorem headret (A : Act) (W : World) (b : Nat) (h : Hd) (Q : Ending → World → Prop) (h2 : A.tmps.getD 2 undef = .pointer (some ⟨b, 0, none⟩)) (hd : A.defers = []) (hr : HdB W b h)
    (hq : Q (.returned (headV h)) W) : bodyPost Tryd.prog Tryd.f15 Q Exit.ret A W := by
  obtain ⟨⟨c0, c1, c2, c3⟩, _⟩ := hr.cells
  have e2 : A.tmps[2]?.getD undef = .pointer (some ⟨b, 0, none⟩) := by simpa using h2
  exact bodyPost_ret (v := headV h) (by simp [results, Tryd.results15, go_sem, headV, e2, c0, c1, c2, c3]) hd hq

set_option maxHeartbeats 4000000 in
theorem head_nil (w : World) : Calls Tryd.prog 15 #[.pointer none] w fun e w' => e = .returned (headV hd0) ∧ Below w.heap.size w w' := by
  have n0 := HdB.new w hd0
  have b0 := (Below.refl _ w).alloc (Nat.le_refl _) (.cells #[.int .i64 hd0.term, .int .i64 hd0.vote, .int .i64 hd0.first, .int .i64 hd0.base] 23)
  obtain ⟨⟨c0, c1, c2, c3⟩, _⟩ := n0.cells
  unfold hd0 at *
  simp only at *
  go_enter Tryd.func15, Tryd.ntmps15
  go_wp2
  exact headret _ _ _ ⟨0, 0, 0, 0⟩ _ rfl rfl n0 ⟨rfl, b0⟩

set_option maxHeartbeats 4000000 in
theorem head_any (b B : Nat) (L : Rc) (w : World) (h : StB w b B L) (hs : L.data.size ≤ 140737488355328) :
    Calls Tryd.prog 15 #[.pointer (some ⟨b, 0, none⟩)] w fun e w' => e = .returned (headV (headL L)) ∧ Below w.heap.size w w' := by
  have n0 := HdB.new w hd0
  have b0 := (Below.refl _ w).alloc (Nat.le_refl _) (.cells #[.int .i64 hd0.term, .int .i64 hd0.vote, .int .i64 hd0.first, .int .i64 hd0.base] 23)
  have s0 := h.below b0
  unfold hd0 at n0 b0 s0
  simp only at n0 b0 s0
  by_cases hL : L = rc0
  · subst hL
    rw [headL_zero]
    have HF := Lib.hid (fresh_any b B rc0 _ s0 true (by simp))
    obtain ⟨⟨c0, c1, c2, c3⟩, f0, f1, f2, f3⟩ := n0.cells
    go_enter Tryd.func15, Tryd.ntmps15
    go_wp2_with (go_at_call 34; refine HF.out.mono ?_; rintro e w' ⟨rfl, rfl⟩)
    refine headret _ _ w.heap.size hd1 _ rfl rfl ?_ ⟨rfl, ?_⟩
    · exact HdB.new w hd1
    · exact (Below.refl _ w).alloc (Nat.le_refl _) _
  · rw [show headL L = (headF L).1 by unfold headL; rw [if_neg hL]]
    have HF := Lib.hid (fresh_any b B L _ s0 false (by simpa using hL))
    have HO := Lib.hid (fun (W : World) => headOf_any L W hs)
    obtain ⟨⟨s1, s2, s3, s4, s5⟩, _⟩ := s0.cells
    generalize headF L = x at *
    obtain ⟨q, t⟩ := x
    unfold headOfV headV recV at HO
    unfold headV
    simp only at HO ⊢
    go_enter Tryd.func15, Tryd.ntmps15
    go_wp2_with (go_at_call 34; refine HF.out.mono ?_; rintro e w' ⟨rfl, rfl⟩)
    refine (HO.out _).mono ?_
    rintro e w1 ⟨rfl, hb1⟩
    have n1 := n0.below hb1
    have B1 := b0.trans (hb1.mono b0.size)
    have b2 := (Below.refl w1.heap.size w1).alloc (Nat.le_refl _) (.cells #[.int .i64 q.term, .int .i64 q.vote, .int .i64 q.first, .int .i64 q.base] 23)
    have n2 := n1.below b2
    have m2 := HdB.new w1 q
    have B2 := below_hd (B1.trans (b2.mono B1.size)) (Nat.le_refl _) q
    obtain ⟨⟨c0, c1, c2, c3⟩, f0, f1, f2, f3⟩ := n2.cells
    obtain ⟨⟨m0, m1, m2', m3⟩, _⟩ := m2.cells
    go_wp2_with fail
    exact headret _ (setHd _ w.heap.size q) _ q _ rfl rfl (n2.set q) ⟨rfl, B2⟩
end
end Go.Proofs.YtigebaaldikeaaaDoor
