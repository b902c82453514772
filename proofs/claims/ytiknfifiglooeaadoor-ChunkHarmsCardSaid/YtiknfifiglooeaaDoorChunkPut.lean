/- Put: a snapshot. No conditions beyond those in each statement. -/
import Derived.Test.YtiknfifiglooeaaDoorChunkWc
namespace Go.Proofs.YtiknfifiglooeaaDoor
open Go Go.RowKit Go.Proofs.Tryd
set_option linter.unusedVariables false
set_option maxRecDepth 100000

theorem run_eqCsP (W : World) (b : Nat) (s1 s2 : Operand) : (do eqGuard .eql 76 s1 s2 (.pointer (some ⟨b, 0, none⟩)) (.pointer none); binOp .eql 76 (.pointer (some ⟨b, 0, none⟩)) (.pointer none) : Sem Value).run Tryd.prog W = .ok (.bool false) W := by go_simp
theorem run_loadLs (W : World) (p : Nat) (i t n : Int) (a : Option Addr) (k c : Nat) (h : LsB W p i t n (.slice a k c)) : (Instr.loadAt 67 (.pointer (some ⟨p, 0, none⟩))).run Tryd.prog W = .ok (.agg #[.int .i64 i, .int .i64 t, .int .i64 n, .slice a k c]) W := by
  obtain ⟨⟨c0, c1, c2, c3⟩, _⟩ := h.cells
  go_simp
theorem run_csf2 (W : World) (b : Nat) : (Instr.fieldAt 142 (.pointer (some ⟨b, 0, none⟩)) 2).run Tryd.prog W = .ok (.pointer (some ⟨b, 2, none⟩)) W := by go_simp
theorem run_lsf0b (W : World) (b o : Nat) : (Instr.fieldAt 67 (.pointer (some ⟨b, o, none⟩)) 0).run Tryd.prog W = .ok (.pointer (some ⟨b, o, none⟩)) W := by go_simp
theorem run_leqI (W : World) (x y : Int) (B : Bool) (h : decide (x ≤ y) = B) (s1 s2 : Operand) : (do eqGuard .leq 3 s1 s2 (.int .i64 x) (.int .i64 y); binOp .leq 3 (.int .i64 x) (.int .i64 y) : Sem Value).run Tryd.prog W = .ok (.bool B) W := by go_simp
theorem call_valid (W : World) (v : Value) : (callFunc 75 #[v]).run Tryd.prog W = .ok (.enter 75 #[v]) W := by go_simp
def FPa (b lb : Nat) (l : Ls) (lv : Value) (i0 : Int) : Nat → Value → World → Prop
  | 0, v, _ => v = .pointer (some ⟨b, 0, none⟩)
  | 1, v, _ => v = .bool false
  | 2, v, _ => v = .bool false
  | 3, v, _ => v = lsV l lv
  | 4, v, _ => v = .bool true
  | 5, v, _ => v = .bool false
  | 6, v, _ => v = .bool false
  | 7, v, _ => v = .bool false
  | 8, v, _ => v = .pointer (some ⟨lb, 0, none⟩)
  | 9, v, _ => v = .int .i64 l.index
  | 10, v, _ => v = .pointer (some ⟨b, 0, none⟩)
  | 11, v, _ => v = .pointer (some ⟨b, 0, none⟩)
  | 12, v, _ => v = .pointer (some ⟨b, 2, none⟩)
  | 13, v, _ => v = .pointer (some ⟨b, 2, none⟩)
  | 14, v, _ => v = .int .i64 i0
  | 15, v, _ => v = .bool false
  | 16, v, _ => v = .bool false
  | _, _, _ => True
theorem FPa_keep {b lb : Nat} {l : Ls} {lv : Value} {i0 : Int} {v : Value} {w w' : World} : ∀ k : Nat, FPa b lb l lv i0 k v w → FPa b lb l lv i0 k v w'
  | 0, h => h
  | 1, h => h
  | 2, h => h
  | 3, h => h
  | 4, h => h
  | 5, h => h
  | 6, h => h
  | 7, h => h
  | 8, h => h
  | 9, h => h
  | 10, h => h
  | 11, h => h
  | 12, h => h
  | 13, h => h
  | 14, h => h
  | 15, h => h
  | 16, h => h
  | _ + 17, _ => trivial

def FPb (b lb : Nat) (l : Ls) (lv : Value) (i0 : Int) : Nat → Value → World → Prop
  | 0, v, _ => v = .pointer (some ⟨b, 0, none⟩)
  | 1, v, _ => v = .bool false
  | 2, v, _ => v = .bool false
  | 3, v, _ => v = lsV l lv
  | 4, v, _ => v = .bool true
  | 5, v, _ => v = .bool false
  | 6, v, _ => v = .bool false
  | 7, v, _ => v = .bool false
  | 8, v, _ => v = .pointer (some ⟨lb, 0, none⟩)
  | 9, v, _ => v = .int .i64 l.index
  | 10, v, _ => v = .pointer (some ⟨b, 0, none⟩)
  | 11, v, _ => v = .pointer (some ⟨b, 0, none⟩)
  | 12, v, _ => v = .pointer (some ⟨b, 2, none⟩)
  | 13, v, _ => v = .pointer (some ⟨b, 2, none⟩)
  | 14, v, _ => v = .int .i64 i0
  | 15, v, _ => v = .bool true
  | 16, v, _ => v = .bool true
  | _, _, _ => True
theorem FPb_keep {b lb : Nat} {l : Ls} {lv : Value} {i0 : Int} {v : Value} {w w' : World} : ∀ k : Nat, FPb b lb l lv i0 k v w → FPb b lb l lv i0 k v w'
  | 0, h => h
  | 1, h => h
  | 2, h => h
  | 3, h => h
  | 4, h => h
  | 5, h => h
  | 6, h => h
  | 7, h => h
  | 8, h => h
  | 9, h => h
  | 10, h => h
  | 11, h => h
  | 12, h => h
  | 13, h => h
  | 14, h => h
  | 15, h => h
  | 16, h => h
  | _ + 17, _ => trivial

def FPc (b lb : Nat) (l : Ls) (lv : Value) (i0 : Int) : Nat → Value → World → Prop
  | 0, v, _ => v = .pointer (some ⟨b, 0, none⟩)
  | 1, v, _ => v = .bool false
  | 2, v, _ => v = .bool false
  | 3, v, _ => v = lsV l lv
  | 4, v, _ => v = .bool false
  | 5, v, _ => v = .bool true
  | 6, v, _ => v = .bool true
  | 7, v, _ => v = .bool true
  | 8, v, _ => v = undef
  | 9, v, _ => v = undef
  | 10, v, _ => v = undef
  | 11, v, _ => v = undef
  | 12, v, _ => v = undef
  | 13, v, _ => v = undef
  | 14, v, _ => v = undef
  | 15, v, _ => v = undef
  | 16, v, _ => v = .bool true
  | _, _, _ => True
theorem FPc_keep {b lb : Nat} {l : Ls} {lv : Value} {i0 : Int} {v : Value} {w w' : World} : ∀ k : Nat, FPc b lb l lv i0 k v w → FPc b lb l lv i0 k v w'
  | 0, h => h
  | 1, h => h
  | 2, h => h
  | 3, h => h
  | 4, h => h
  | 5, h => h
  | 6, h => h
  | 7, h => h
  | 8, h => h
  | 9, h => h
  | 10, h => h
  | 11, h => h
  | 12, h => h
  | 13, h => h
  | 14, h => h
  | 15, h => h
  | 16, h => h
  | _ + 17, _ => trivial
/-- A list is sound: its numbers are Go's. -/
theorem sumsOf_in (s : ByteArray) : ∀ z ∈ sumsOf s, 0 ≤ z ∧ z ≤ 4294967295 := by
  intro z hz
  obtain ⟨c, _, rfl⟩ := List.mem_map.1 hz
  have := addN_lt 0 c.data.toList (by decide)
  omega
/-- A store. -/
structure StoW (m : Nat) (E : Nat → Prop) (w : World) (b B : Nat) (base : Int) (l : Ls) (sv : Value) (area : Int) (D : Dv) : Prop where
  dev : DevW m E w B D
  st : CsB w b B base l.index l.term l.bytes sv area
  eb : E b
  mb : m ≤ b
  sums : SmR w sv l.sums
  own : ∀ g, sv.ownBlock = some g → E g ∧ g ≠ b
  bytes : 0 ≤ l.bytes ∧ l.bytes ≤ 281474976710655
  base : 0 ≤ base ∧ base ≤ 1000000000
  area : area = 0 ∨ area = 1
def Ls.bad (l : Ls) (i0 : Int) : Bool := !validB l.index l.term l.bytes l.sums.length || decide (l.index ≤ i0)
/-- The chunks written from the k-th on; q: the block of the first one. -/
noncomputable def Dv.wrs (q i : Int) : Dv → Nat → List ByteArray → Int × Dv
  | D, _, [] => (0, D)
  | D, k, c :: cs => if (D.swrite (q + (k : Int)) (chunkR i (k : Int) c)).1 = 0 then Dv.wrs q i (D.swrite (q + (k : Int)) (chunkR i (k : Int) c)).2 (k + 1) cs else D.swrite (q + (k : Int)) (chunkR i (k : Int) c)
/-- What Put writes, and answers. -/
noncomputable def Dv.put7 (D : Dv) (q x y i : Int) (cs : List ByteArray) (r : Rc) : Int × Dv :=
  if (Dv.wrs q i D 0 cs).1 = 0 then (if (Dv.wrs q i D 0 cs).2.flush.1 = 0 then (Dv.wrs q i D 0 cs).2.flush.2.pair x y r else (Dv.wrs q i D 0 cs).2.flush) else Dv.wrs q i D 0 cs
/-- Where the next snapshot goes. -/
def nextA (i0 area : Int) : Int := if i0 = 0 then 0 else (area + 1) % 2
noncomputable def putP (D : Dv) (base i0 area i t : Int) (s : ByteArray) : Int × Dv :=
  D.put7 (base + nextA i0 area * 66 + 2) (wcB base (nextA i0 area) 0 0) (wcB base (nextA i0 area) 0 1) i (cutS s) (listR (ofL i t s))
/-- What stands behind a Put. -/
def PutRel (m : Nat) (E : Nat → Prop) (w : World) (b B : Nat) (base : Int) (l0 : Ls) (sv : Value) (area : Int) (D : Dv) (i t : Int) (s : ByteArray) (c : Int) (w' : World) : Prop :=
  ((ofL i t s).bad l0.index = true ∧ c = 1 ∧ StoW m E w' b B base l0 sv area D) ∨
  ((ofL i t s).bad l0.index = false ∧ c = (putP D base l0.index area i t s).1 ∧ ∃ E' : Nat → Prop, (∀ j, E j → E' j) ∧
    (((putP D base l0.index area i t s).1 = 0 ∧ ∃ sv', StoW m E' w' b B base (ofL i t s) sv' (nextA l0.index area) (putP D base l0.index area i t s).2) ∨
     ((putP D base l0.index area i t s).1 ≠ 0 ∧ StoW m E' w' b B base l0 sv area (putP D base l0.index area i t s).2)))
theorem StoW.below {m : Nat} {E : Nat → Prop} {w x : World} {b B : Nat} {base : Int} {l : Ls} {sv : Value} {area : Int} {D : Dv} (h : StoW m E w b B base l sv area D) (hb : Below w.heap.size w x) : StoW m E x b B base l sv area D :=
  ⟨h.dev.below hb, h.st.below hb, h.eb, h.mb, h.sums.below hb, h.own, h.bytes, h.base, h.area⟩
/-- The device turned, the rest kept. -/
theorem StoW.turn {m : Nat} {E F : Nat → Prop} {w x : World} {b B : Nat} {base : Int} {l : Ls} {sv : Value} {area : Int} {D D' : Dv} (h : StoW m E w b B base l sv area D) (hd : DevW m F x B D') (hk : Kept E w x) (hF : ∀ j, E j → F j) (hs : w.heap.size ≤ x.heap.size) : StoW m F x b B base l sv area D' :=
  ⟨hd, h.st.keep hk h.eb, hF _ h.eb, h.mb, h.sums.keep hk (fun g hg => (h.own g hg).1) hs, fun g hg => ⟨hF _ (h.own g hg).1, (h.own g hg).2⟩, h.bytes, h.base, h.area⟩
theorem wrs_go {q i : Int} {D : Dv} {k : Nat} {c : ByteArray} {cs : List ByteArray} (h : (D.swrite (q + (k : Int)) (chunkR i (k : Int) c)).1 = 0) : Dv.wrs q i D k (c :: cs) = Dv.wrs q i (D.swrite (q + (k : Int)) (chunkR i (k : Int) c)).2 (k + 1) cs := by
  show (if _ then _ else _) = _
  rw [if_pos h]
theorem wrs_stop {q i : Int} {D : Dv} {k : Nat} {c : ByteArray} {cs : List ByteArray} (h : (D.swrite (q + (k : Int)) (chunkR i (k : Int) c)).1 ≠ 0) : Dv.wrs q i D k (c :: cs) = D.swrite (q + (k : Int)) (chunkR i (k : Int) c) := by
  show (if _ then _ else _) = _
  rw [if_neg h]
theorem put7_stop {D : Dv} {q x y i : Int} {cs : List ByteArray} {r : Rc} (h : (Dv.wrs q i D 0 cs).1 ≠ 0) : D.put7 q x y i cs r = Dv.wrs q i D 0 cs := by unfold Dv.put7; rw [if_neg h]
theorem put7_flush {D : Dv} {q x y i : Int} {cs : List ByteArray} {r : Rc} (h : (Dv.wrs q i D 0 cs).1 = 0) (h2 : (Dv.wrs q i D 0 cs).2.flush.1 ≠ 0) : D.put7 q x y i cs r = (Dv.wrs q i D 0 cs).2.flush := by unfold Dv.put7; rw [if_pos h, if_neg h2]
theorem put7_go {D : Dv} {q x y i : Int} {cs : List ByteArray} {r : Rc} (h : (Dv.wrs q i D 0 cs).1 = 0) (h2 : (Dv.wrs q i D 0 cs).2.flush.1 = 0) : D.put7 q x y i cs r = (Dv.wrs q i D 0 cs).2.flush.2.pair x y r := by unfold Dv.put7; rw [if_pos h, if_pos h2]
theorem c_flush_err {D : Dv} : D.flush.1 = 0 ∨ D.flush.1 = 5 := by
  unfold Dv.flush
  split
  · exact .inl rfl
  · exact .inr rfl
theorem CsB.setArea {w : World} {b B : Nat} {base i t n area : Int} {sv : Value} (h : CsB w b B base i t n sv area) (a : Int) : CsB (w.setCell ⟨b, 6, none⟩ (.int .i64 a)) b B base i t n sv a := block_setCell (i := 6) h
def setCl (w : World) (b : Nat) (i t n : Int) (sv : Value) : World := (((w.setCell ⟨b, 2, none⟩ (.int .i64 i)).setCell ⟨b, 3, none⟩ (.int .i64 t)).setCell ⟨b, 4, none⟩ (.int .i64 n)).setCell ⟨b, 5, none⟩ sv
theorem CsB.setList {w : World} {b B : Nat} {base i t n area : Int} {sv : Value} (h : CsB w b B base i t n sv area) (i' t' n' : Int) (sv' : Value) : CsB (setCl w b i' t' n' sv') b B base i' t' n' sv' area := by
  have h0 : w.heap[b]? = some (.cells #[.pointer (some ⟨B, 0, none⟩), .int .i64 base, .int .i64 i, .int .i64 t, .int .i64 n, sv, .int .i64 area] 142 (0, 0)) := h
  have h1 := block_setCell (i := 2) (u := .int .i64 i') h0
  have h2 := block_setCell (i := 3) (u := .int .i64 t') h1
  have h3 := block_setCell (i := 4) (u := .int .i64 n') h2
  exact block_setCell (i := 5) (u := sv') h3
theorem setCl_other {w : World} {b k : Nat} {i t n : Int} {sv : Value} (h : k ≠ b) : (setCl w b i t n sv).heap[k]? = w.heap[k]? :=
  ((block_setCell_other h).trans ((block_setCell_other h).trans ((block_setCell_other h).trans (block_setCell_other h))))
theorem below_setCl {m : Nat} {a w : World} {b : Nat} (h : Below m a w) (hb : m ≤ b) (i t n : Int) (sv : Value) : Below m a (setCl w b i t n sv) :=
  (((h.setCell (p := ⟨b, 2, none⟩) hb _).setCell (p := ⟨b, 3, none⟩) hb _).setCell (p := ⟨b, 4, none⟩) hb _).setCell (p := ⟨b, 5, none⟩) hb _
theorem DevW.setCl {m : Nat} {E : Nat → Prop} {w : World} {B b : Nat} {D : Dv} (h : DevW m E w B D) (hb : E b) (i t n : Int) (sv : Value) : DevW m E (setCl w b i t n sv) B D :=
  ((((h.setCellC (p := ⟨b, 2, none⟩) hb _).setCellC (p := ⟨b, 3, none⟩) hb _).setCellC (p := ⟨b, 4, none⟩) hb _).setCellC (p := ⟨b, 5, none⟩) hb _)
theorem setCl_size (w : World) (b : Nat) (i t n : Int) (sv : Value) : (setCl w b i t n sv).heap.size = w.heap.size := by simp [setCl]
/-- The store takes the new list. -/
def TakeRel (m : Nat) (E : Nat → Prop) (w : World) (b B : Nat) (base i t n : Int) (sv : Value) (ar : Int) (D : Dv) (wx : World) : Prop :=
  CsB wx b B base i t n sv ar ∧ DevW m E wx B D ∧ Below m w wx ∧ Kept (fun j => E j ∧ j ≠ b) w wx
theorem take1 {m : Nat} {E : Nat → Prop} {w : World} {b B : Nat} {base i0 t0 n0 a0 : Int} {sv0 : Value} {D : Dv} (h : CsB w b B base i0 t0 n0 sv0 a0) (hd : DevW m E w B D) (hb : E b) (hm : m ≤ b) (i t n : Int) (sv : Value) (ar : Int) :
    TakeRel m E w b B base i t n sv ar D (setCl (w.setCell ⟨b, 6, none⟩ (.int .i64 ar)) b i t n sv) :=
  ⟨(h.setArea ar).setList i t n sv, (hd.setCellC (p := ⟨b, 6, none⟩) hb _).setCl hb i t n sv, below_setCl ((Below.refl m w).setCell (p := ⟨b, 6, none⟩) hm _) hm i t n sv, fun j hj => (setCl_other hj.2).trans (block_setCell_other hj.2)⟩
theorem take2 {m : Nat} {E : Nat → Prop} {w : World} {b B : Nat} {base i0 t0 n0 a0 : Int} {sv0 : Value} {D : Dv} (h : CsB w b B base i0 t0 n0 sv0 a0) (hd : DevW m E w B D) (hb : E b) (hm : m ≤ b) (i t n : Int) (sv : Value) (ar : Int) :
    TakeRel m E w b B base i t n sv ar D ((setCl w b i t n sv).setCell ⟨b, 6, none⟩ (.int .i64 ar)) :=
  ⟨(h.setList i t n sv).setArea ar, (hd.setCl hb i t n sv).setCellC (p := ⟨b, 6, none⟩) hb _, (below_setCl (Below.refl m w) hm i t n sv).setCell (p := ⟨b, 6, none⟩) hm _, fun j hj => (block_setCell_other hj.2).trans (setCl_other hj.2)⟩
/-- The store's area may turn to ar; all else lies as it lay. -/
structure RA (b B : Nat) (base i t n : Int) (sv : Value) (ar : Int) (w w' : World) : Prop where
  os : w'.os = w.os
  tape : w'.tape = w.tape
  output : w'.output = w.output
  size : w'.heap.size = w.heap.size
  block : ∀ k, k ≠ b → w'.heap[k]? = w.heap[k]?
  st : ∀ a, CsB w b B base i t n sv a → CsB w' b B base i t n sv a ∨ CsB w' b B base i t n sv ar
theorem RA.refl (b B : Nat) (base i t n : Int) (sv : Value) (ar : Int) (w : World) : RA b B base i t n sv ar w w := ⟨rfl, rfl, rfl, rfl, fun _ _ => rfl, fun _ h => .inl h⟩
theorem RA.trans {b B : Nat} {base i t n : Int} {sv : Value} {ar : Int} {u v w : World} (h : RA b B base i t n sv ar u v) (k : RA b B base i t n sv ar v w) : RA b B base i t n sv ar u w :=
  ⟨k.os.trans h.os, k.tape.trans h.tape, k.output.trans h.output, k.size.trans h.size, fun j hj => (k.block j hj).trans (h.block j hj), fun a ha => (h.st a ha).elim (fun x => k.st a x) (fun x => .inr ((k.st ar x).elim id id))⟩
theorem RA.set {b B : Nat} {base i t n a : Int} {sv : Value} {ar : Int} {w : World} (h : CsB w b B base i t n sv a) : RA b B base i t n sv ar w (w.setCell ⟨b, 6, none⟩ (.int .i64 ar)) :=
  ⟨rfl, rfl, rfl, by simp, fun k hk => block_setCell_other hk, fun a' ha' => .inr (ha'.setArea ar)⟩
theorem run_csf3 (W : World) (b : Nat) : (Instr.fieldAt 142 (.pointer (some ⟨b, 0, none⟩)) 3).run Tryd.prog W = .ok (.pointer (some ⟨b, 6, none⟩)) W := by go_simp
theorem run_storeI (W : World) (p : Addr) (z : Int) (u : Value) (h : W.cell? p = some u) (hf : W.frozen? p = false) : (Instr.storeAt 3 (.pointer (some p)) (.int .i64 z)).run Tryd.prog W = .ok () (W.setCell p (.int .i64 z)) := by go_simp
theorem run_storeCl (W : World) (b B : Nat) (base i0 t0 n0 a : Int) (sv0 : Value) (h : CsB W b B base i0 t0 n0 sv0 a) (i t n : Int) (p : Option Addr) (k c : Nat) : (Instr.storeAt 67 (.pointer (some ⟨b, 2, none⟩)) (.agg #[.int .i64 i, .int .i64 t, .int .i64 n, .slice p k c])).run Tryd.prog W = .ok () (setCl W b i t n (.slice p k c)) := by
  obtain ⟨⟨d0, d1, d2, d3, d4, d5, d6⟩, q2, q3, q4, q5, q6⟩ := h.cells
  unfold setCl
  go_simp
theorem take3 {m : Nat} {E : Nat → Prop} {w w5 : World} {b B : Nat} {base i0 t0 n0 ar : Int} {sv0 : Value} {D : Dv} (hR : RA b B base i0 t0 n0 sv0 ar w w5) (h : CsB w5 b B base i0 t0 n0 sv0 ar) (hd : DevW m E w B D) (hb : E b) (hm : m ≤ b) (i t n : Int) (sv : Value) :
    TakeRel m E w b B base i t n sv ar D (setCl w5 b i t n sv) := by
  have hd5 : DevW m E w5 B D := by
    obtain ⟨S, ⟨R, sv, C, h⟩, hS, hl⟩ := hd
    exact ⟨S, ⟨R, sv, C, h.keep (by rw [hR.size]; exact Nat.le_refl _) (fun k hk => hR.block k (fun e => (hS k hk).2 (by rw [e]; exact hb)))⟩, hS, fun k hk => by rw [hR.size]; exact hl k hk⟩
  have hb5 : Below m w w5 := ⟨hR.os, hR.tape, hR.output, by rw [hR.size]; exact Nat.le_refl _, fun k hk => hR.block k (by omega)⟩
  exact ⟨h.setList i t n sv, hd5.setCl hb i t n sv, below_setCl hb5 hm i t n sv, fun j hj => (setCl_other hj.2).trans (hR.block j hj.2)⟩
def FTk (b lb B : Nat) (base i0 t0 n0 : Int) (sv0 : Value) (l : Ls) (lv : Value) (ar : Int) : Nat → Value → World → Prop
  | 0, v, _ => v = .pointer (some ⟨b, 0, none⟩)
  | 1, v, _ => v = .pointer (some ⟨b, 0, none⟩)
  | 2, v, _ => v = .int .i64 ar
  | 3, v, _ => v = lsV l lv
  | 4, v, _ => v = .pointer (some ⟨b, 0, none⟩)
  | 5, v, _ => v = .pointer (some ⟨b, 6, none⟩)
  | 6, v, w => CsB w b B base i0 t0 n0 sv0 ar
  | 7, v, _ => v = .pointer (some ⟨b, 0, none⟩)
  | 8, v, _ => v = .pointer (some ⟨b, 2, none⟩)
  | _, _, _ => True
theorem FTk_keep {b lb B : Nat} {base i0 t0 n0 : Int} {sv0 : Value} {l : Ls} {lv : Value} {ar : Int} {v : Value} {w w' : World} (hb : RA b B base i0 t0 n0 sv0 ar w w') : ∀ k : Nat, FTk b lb B base i0 t0 n0 sv0 l lv ar k v w → FTk b lb B base i0 t0 n0 sv0 l lv ar k v w'
  | 0, h => h
  | 1, h => h
  | 2, h => h
  | 3, h => h
  | 4, h => h
  | 5, h => h
  | 6, h => (hb.st ar h).elim id id
  | 7, h => h
  | 8, h => h
  | _ + 9, _ => trivial
set_option maxHeartbeats 8000000 in
theorem cput_any {m : Nat} {E : Nat → Prop} {w : World} {b B : Nat} {base i0 t0 n0 area : Int} {ss0 : List Int} {sv : Value} {D : Dv} (i t : Int) (s : ByteArray) (hs : s.size ≤ 100000000) (h : StoW m E w b B base ⟨i0, t0, n0, ss0⟩ sv area D) (hm : m ≤ w.heap.size) (ht : ∀ x, Below m w x → Tabs x) (hw : D.writes ≤ 1073700000) :
    Calls Tryd.prog 36 #[.pointer (some ⟨b, 0, none⟩), .int .i64 i, .int .i64 t, .string s] w fun e w' => ∃ c, e = .returned (.int .i64 c) ∧ PutRel m E w b B base ⟨i0, t0, n0, ss0⟩ sv area D i t s c w' ∧ Below m w w' ∧ Kept (fun j => E j ∧ j ≠ b) w w' := by
  have hT := ht w (Below.refl _ _)
  have H := Lib.hid h
  have HT := Lib.hid ht
  obtain ⟨⟨c0, c1, c2, c3, c4, c5, c6⟩, _⟩ := h.st.cells
  simp only at c2
  clear h ht
  go_enter Tryd.func36, Tryd.ntmps36
  go_wp2_with fail
  refine (cof_any i t s hs w hT).mono ?_
  rintro e w1 ⟨lv, rfl, hown, hb1⟩
  have hse : SmR w1 lv (sumsOf s) := SmR.of_row hown (by rw [sumsOf_length]; unfold cutN; omega) (sumsOf_in s)
  obtain ⟨la, lcap, rfl, _⟩ := id hse
  unfold lsV ofL
  simp only
  go_upto_region 2 with fail
  have hok : 0 ≤ (s.size : Int) ∧ (s.size : Int) ≤ 1000000000000000 := by omega
  have hsl : (sumsOf s).length ≤ 1000000000000 := by rw [sumsOf_length]; unfold cutN; omega
  have b2 := (Below.refl w1.heap.size w1).alloc (Nat.le_refl _) (.cells #[.int .i64 i, .int .i64 t, .int .i64 (s.size : Int), .slice la (sumsOf s).length lcap] 67)
  have L2 := LsB.new w1 i t (s.size : Int) (.slice la (sumsOf s).length lcap)
  have M2 := hse.below b2
  have hown2 := World.ownsRow_below hown b2
  have B2 := hb1.trans (b2.mono hb1.size)
  have hgl : w1.heap.size < (w1.alloc (.cells #[.int .i64 i, .int .i64 t, .int .i64 (s.size : Int), .slice la (sumsOf s).length lcap] 67)).heap.size := L2.lt
  have hww : w.heap.size ≤ w1.heap.size := hb1.size
  generalize w1.alloc (.cells #[.int .i64 i, .int .i64 t, .int .i64 (s.size : Int), .slice la (sumsOf s).length lcap] 67) = w2 at b2 L2 M2 B2 hown2 hgl ⊢
  have hlw : w.heap.size ≤ w1.heap.size := hww
  have HS2 := Lib.hid (H.out.st.below B2)
  have HVA := Lib.hid (fun (W : World) => cvalid_any i t (s.size : Int) (sumsOf s).length la lcap hok hsl W)
  have HDR := Lib.hid (fun (W : World) (h : Below w2.drew.heap.size w2.drew W) => show Below w2.heap.size w2 W from ((Below.refl _ w2).drew).trans h)
  have HLB := Lib.hid (fun (W : World) (h : Below w2.drew.heap.size w2.drew W) => show LsB W w1.heap.size i t (s.size : Int) (.slice la (sumsOf s).length lcap) from L2.below (HDR.out W h))
  have HSB := Lib.hid (fun (W : World) (h : Below w2.drew.heap.size w2.drew W) => show W.cell? ⟨b, 2, none⟩ = some (.int .i64 i0) from (HS2.out.below (HDR.out W h)).cells.1.2.2.1)
  have HL2 := Lib.hid L2
  have HM2 := Lib.hid M2
  have HO2 := Lib.hid hown2
  have HB2 := Lib.hid B2
  clear hown hse hb1 c0 c1 c2 c3 c4 c5 c6 hT L2 M2 hown2 B2 b2
  go_cut [36] (fun v wx => v = .bool ((ofL i t s).bad i0) ∧ Below w2.heap.size w2 wx)
  case first =>
    by_cases hv : validB i t (s.size : Int) (sumsOf s).length = true
    · rw [hv] at HVA
      by_cases hle : i ≤ i0
      · have HLE : Hid (decide (i ≤ i0) = true) := by show _ = _; simpa using hle
        have HBD : Hid ((ofL i t s).bad i0 = true) := by show _ = _; unfold Ls.bad ofL; simp [hle]
        refine wp_region_steps (FPb b w1.heap.size ⟨i, t, (s.size : Int), sumsOf s⟩ (.slice la (sumsOf s).length lcap) i0) (fun w w' => Below w.heap.size w w') (by kernel_rfl) (by kernel_rfl) (by kernel_rfl) (Below.refl _ _) ?_ (fun u v w h1 h2 => h1.trans (h2.mono h1.size)) ?_ ?_
        · intro k v w w' _ h1 _
          exact FPb_keep k h1
        · intro k o ho x w1 hR hF
          match k, ho with
            | 0, ho =>
              obtain rfl := Option.some.inj ho
              exact gstep_move rfl (wanted0 rfl) _ rfl _ (eval_of 0 _ (by kernel_rfl) rfl) ⟨_, rfl, rfl, Below.refl _ _⟩
            | 1, ho =>
              obtain rfl := Option.some.inj ho
              exact gstep_bin rfl (wanted0 rfl) _ _ _ _ _ rfl _ _ (eval_at 20 0 _ (by kernel_rfl) (show 20 < 94 by decide) (hF 0 (by kernel_rfl))) rfl _ (run_eqCsP w1 _ _ _) ⟨_, rfl, rfl, Below.refl _ _⟩
            | 2, ho =>
              obtain rfl := Option.some.inj ho
              exact gstep_move rfl (wanted0 rfl) _ rfl _ (eval_at 21 1 _ (by kernel_rfl) (show 21 < 94 by decide) (hF 1 (by kernel_rfl))) ⟨_, rfl, rfl, Below.refl _ _⟩
            | 3, ho =>
              obtain rfl := Option.some.inj ho
              exact gstep_load rfl (wanted_at 22 2 false _ true rfl (by kernel_rfl) (show 22 < 94 by decide) (hF 2 (by kernel_rfl)) rfl) _ _ rfl _ (eval_of 9 _ (by kernel_rfl) rfl) _ (run_loadLs w1 _ _ _ _ _ _ _ (HLB.out w1 hR)) ⟨_, rfl, rfl, Below.refl _ _⟩
            | 4, ho =>
              obtain rfl := Option.some.inj ho
              refine gstep_call rfl (wanted_at 22 2 false _ true rfl (by kernel_rfl) (show 22 < 94 by decide) (hF 2 (by kernel_rfl)) rfl) _ _ _ rfl _ (eval_at 23 3 _ (by kernel_rfl) (show 23 < 94 by decide) (hF 3 (by kernel_rfl))) (call_valid w1 _) ?_
              refine (HVA.out w1).mono ?_
              rintro e w2 ⟨rfl, hb⟩
              exact ⟨_, rfl, _, rfl, rfl, hb⟩
            | 5, ho =>
              obtain rfl := Option.some.inj ho
              exact gstep_not rfl (wanted_at 22 2 false _ true rfl (by kernel_rfl) (show 22 < 94 by decide) (hF 2 (by kernel_rfl)) rfl) _ _ rfl _ (eval_at 24 4 _ (by kernel_rfl) (show 24 < 94 by decide) (hF 4 (by kernel_rfl))) ⟨_, rfl, rfl, Below.refl _ _⟩
            | 6, ho =>
              obtain rfl := Option.some.inj ho
              exact gstep_pick rfl (wanted0 rfl) _ _ _ rfl false (eval_at 22 2 _ (by kernel_rfl) (show 22 < 94 by decide) (hF 2 (by kernel_rfl))) _ (by rw [if_neg (by decide)]; exact (eval_at 25 5 _ (by kernel_rfl) (show 25 < 94 by decide) (hF 5 (by kernel_rfl)))) ⟨_, rfl, rfl, Below.refl _ _⟩
            | 7, ho =>
              obtain rfl := Option.some.inj ho
              exact gstep_move rfl (wanted0 rfl) _ rfl _ (eval_at 26 6 _ (by kernel_rfl) (show 26 < 94 by decide) (hF 6 (by kernel_rfl))) ⟨_, rfl, rfl, Below.refl _ _⟩
            | 8, ho =>
              obtain rfl := Option.some.inj ho
              exact gstep_field rfl (wanted_at 27 7 false _ true rfl (by kernel_rfl) (show 27 < 94 by decide) (hF 7 (by kernel_rfl)) rfl) _ _ _ rfl _ (eval_of 9 _ (by kernel_rfl) rfl) _ (run_lsf0 w1 _) ⟨_, rfl, rfl, Below.refl _ _⟩
            | 9, ho =>
              obtain rfl := Option.some.inj ho
              exact gstep_load rfl (wanted_at 27 7 false _ true rfl (by kernel_rfl) (show 27 < 94 by decide) (hF 7 (by kernel_rfl)) rfl) _ _ rfl _ (eval_at 28 8 _ (by kernel_rfl) (show 28 < 94 by decide) (hF 8 (by kernel_rfl))) _ (run_loadI w1 _ _ (HLB.out w1 hR).cells.1.1) ⟨_, rfl, rfl, Below.refl _ _⟩
            | 10, ho =>
              obtain rfl := Option.some.inj ho
              exact gstep_move rfl (wanted_at 27 7 false _ true rfl (by kernel_rfl) (show 27 < 94 by decide) (hF 7 (by kernel_rfl)) rfl) _ rfl _ (eval_of 0 _ (by kernel_rfl) rfl) ⟨_, rfl, rfl, Below.refl _ _⟩
            | 11, ho =>
              obtain rfl := Option.some.inj ho
              exact gstep_nil rfl (wanted_at 27 7 false _ true rfl (by kernel_rfl) (show 27 < 94 by decide) (hF 7 (by kernel_rfl)) rfl) _ rfl _ (eval_at 30 10 _ (by kernel_rfl) (show 30 < 94 by decide) (hF 10 (by kernel_rfl))) ⟨_, rfl, rfl, Below.refl _ _⟩
            | 12, ho =>
              obtain rfl := Option.some.inj ho
              exact gstep_field rfl (wanted_at 27 7 false _ true rfl (by kernel_rfl) (show 27 < 94 by decide) (hF 7 (by kernel_rfl)) rfl) _ _ _ rfl _ (eval_at 31 11 _ (by kernel_rfl) (show 31 < 94 by decide) (hF 11 (by kernel_rfl))) _ (run_csf2 w1 _) ⟨_, rfl, rfl, Below.refl _ _⟩
            | 13, ho =>
              obtain rfl := Option.some.inj ho
              exact gstep_field rfl (wanted_at 27 7 false _ true rfl (by kernel_rfl) (show 27 < 94 by decide) (hF 7 (by kernel_rfl)) rfl) _ _ _ rfl _ (eval_at 32 12 _ (by kernel_rfl) (show 32 < 94 by decide) (hF 12 (by kernel_rfl))) _ (run_lsf0b w1 _ _) ⟨_, rfl, rfl, Below.refl _ _⟩
            | 14, ho =>
              obtain rfl := Option.some.inj ho
              exact gstep_load rfl (wanted_at 27 7 false _ true rfl (by kernel_rfl) (show 27 < 94 by decide) (hF 7 (by kernel_rfl)) rfl) _ _ rfl _ (eval_at 33 13 _ (by kernel_rfl) (show 33 < 94 by decide) (hF 13 (by kernel_rfl))) _ (run_loadI w1 _ _ (HSB.out w1 hR)) ⟨_, rfl, rfl, Below.refl _ _⟩
            | 15, ho =>
              obtain rfl := Option.some.inj ho
              exact gstep_bin rfl (wanted_at 27 7 false _ true rfl (by kernel_rfl) (show 27 < 94 by decide) (hF 7 (by kernel_rfl)) rfl) _ _ _ _ _ rfl _ _ (eval_at 29 9 _ (by kernel_rfl) (show 29 < 94 by decide) (hF 9 (by kernel_rfl))) (eval_at 34 14 _ (by kernel_rfl) (show 34 < 94 by decide) (hF 14 (by kernel_rfl))) _ (run_leqI w1 _ _ _ HLE.out _ _) ⟨_, rfl, rfl, Below.refl _ _⟩
            | 16, ho =>
              obtain rfl := Option.some.inj ho
              exact gstep_pick rfl (wanted0 rfl) _ _ _ rfl false (eval_at 27 7 _ (by kernel_rfl) (show 27 < 94 by decide) (hF 7 (by kernel_rfl))) _ (by rw [if_neg (by decide)]; exact (eval_at 35 15 _ (by kernel_rfl) (show 35 < 94 by decide) (hF 15 (by kernel_rfl)))) ⟨_, rfl, rfl, Below.refl _ _⟩
            | n + 17, ho => simp at ho
        · intro x w5 hR hF
          have h16 := hF 16 (by decide)
          unfold FPb at h16
          simp only [putAll, Act.put, List.setIfInBounds_toArray, List.set_cons_succ, List.set_cons_zero]
          generalize x 16 = v16 at h16 ⊢
          subst h16
          clear hF
          go_wp2_with fail
          go_meet
          exact ⟨by rw [HBD.out], HDR.out w5 hR⟩
      · have HLE : Hid (decide (i ≤ i0) = false) := by show _ = _; simpa using hle
        have HBD : Hid ((ofL i t s).bad i0 = false) := by show _ = _; unfold Ls.bad ofL; simp [hle, hv]
        refine wp_region_steps (FPa b w1.heap.size ⟨i, t, (s.size : Int), sumsOf s⟩ (.slice la (sumsOf s).length lcap) i0) (fun w w' => Below w.heap.size w w') (by kernel_rfl) (by kernel_rfl) (by kernel_rfl) (Below.refl _ _) ?_ (fun u v w h1 h2 => h1.trans (h2.mono h1.size)) ?_ ?_
        · intro k v w w' _ h1 _
          exact FPa_keep k h1
        · intro k o ho x w1 hR hF
          match k, ho with
            | 0, ho =>
              obtain rfl := Option.some.inj ho
              exact gstep_move rfl (wanted0 rfl) _ rfl _ (eval_of 0 _ (by kernel_rfl) rfl) ⟨_, rfl, rfl, Below.refl _ _⟩
            | 1, ho =>
              obtain rfl := Option.some.inj ho
              exact gstep_bin rfl (wanted0 rfl) _ _ _ _ _ rfl _ _ (eval_at 20 0 _ (by kernel_rfl) (show 20 < 94 by decide) (hF 0 (by kernel_rfl))) rfl _ (run_eqCsP w1 _ _ _) ⟨_, rfl, rfl, Below.refl _ _⟩
            | 2, ho =>
              obtain rfl := Option.some.inj ho
              exact gstep_move rfl (wanted0 rfl) _ rfl _ (eval_at 21 1 _ (by kernel_rfl) (show 21 < 94 by decide) (hF 1 (by kernel_rfl))) ⟨_, rfl, rfl, Below.refl _ _⟩
            | 3, ho =>
              obtain rfl := Option.some.inj ho
              exact gstep_load rfl (wanted_at 22 2 false _ true rfl (by kernel_rfl) (show 22 < 94 by decide) (hF 2 (by kernel_rfl)) rfl) _ _ rfl _ (eval_of 9 _ (by kernel_rfl) rfl) _ (run_loadLs w1 _ _ _ _ _ _ _ (HLB.out w1 hR)) ⟨_, rfl, rfl, Below.refl _ _⟩
            | 4, ho =>
              obtain rfl := Option.some.inj ho
              refine gstep_call rfl (wanted_at 22 2 false _ true rfl (by kernel_rfl) (show 22 < 94 by decide) (hF 2 (by kernel_rfl)) rfl) _ _ _ rfl _ (eval_at 23 3 _ (by kernel_rfl) (show 23 < 94 by decide) (hF 3 (by kernel_rfl))) (call_valid w1 _) ?_
              refine (HVA.out w1).mono ?_
              rintro e w2 ⟨rfl, hb⟩
              exact ⟨_, rfl, _, rfl, rfl, hb⟩
            | 5, ho =>
              obtain rfl := Option.some.inj ho
              exact gstep_not rfl (wanted_at 22 2 false _ true rfl (by kernel_rfl) (show 22 < 94 by decide) (hF 2 (by kernel_rfl)) rfl) _ _ rfl _ (eval_at 24 4 _ (by kernel_rfl) (show 24 < 94 by decide) (hF 4 (by kernel_rfl))) ⟨_, rfl, rfl, Below.refl _ _⟩
            | 6, ho =>
              obtain rfl := Option.some.inj ho
              exact gstep_pick rfl (wanted0 rfl) _ _ _ rfl false (eval_at 22 2 _ (by kernel_rfl) (show 22 < 94 by decide) (hF 2 (by kernel_rfl))) _ (by rw [if_neg (by decide)]; exact (eval_at 25 5 _ (by kernel_rfl) (show 25 < 94 by decide) (hF 5 (by kernel_rfl)))) ⟨_, rfl, rfl, Below.refl _ _⟩
            | 7, ho =>
              obtain rfl := Option.some.inj ho
              exact gstep_move rfl (wanted0 rfl) _ rfl _ (eval_at 26 6 _ (by kernel_rfl) (show 26 < 94 by decide) (hF 6 (by kernel_rfl))) ⟨_, rfl, rfl, Below.refl _ _⟩
            | 8, ho =>
              obtain rfl := Option.some.inj ho
              exact gstep_field rfl (wanted_at 27 7 false _ true rfl (by kernel_rfl) (show 27 < 94 by decide) (hF 7 (by kernel_rfl)) rfl) _ _ _ rfl _ (eval_of 9 _ (by kernel_rfl) rfl) _ (run_lsf0 w1 _) ⟨_, rfl, rfl, Below.refl _ _⟩
            | 9, ho =>
              obtain rfl := Option.some.inj ho
              exact gstep_load rfl (wanted_at 27 7 false _ true rfl (by kernel_rfl) (show 27 < 94 by decide) (hF 7 (by kernel_rfl)) rfl) _ _ rfl _ (eval_at 28 8 _ (by kernel_rfl) (show 28 < 94 by decide) (hF 8 (by kernel_rfl))) _ (run_loadI w1 _ _ (HLB.out w1 hR).cells.1.1) ⟨_, rfl, rfl, Below.refl _ _⟩
            | 10, ho =>
              obtain rfl := Option.some.inj ho
              exact gstep_move rfl (wanted_at 27 7 false _ true rfl (by kernel_rfl) (show 27 < 94 by decide) (hF 7 (by kernel_rfl)) rfl) _ rfl _ (eval_of 0 _ (by kernel_rfl) rfl) ⟨_, rfl, rfl, Below.refl _ _⟩
            | 11, ho =>
              obtain rfl := Option.some.inj ho
              exact gstep_nil rfl (wanted_at 27 7 false _ true rfl (by kernel_rfl) (show 27 < 94 by decide) (hF 7 (by kernel_rfl)) rfl) _ rfl _ (eval_at 30 10 _ (by kernel_rfl) (show 30 < 94 by decide) (hF 10 (by kernel_rfl))) ⟨_, rfl, rfl, Below.refl _ _⟩
            | 12, ho =>
              obtain rfl := Option.some.inj ho
              exact gstep_field rfl (wanted_at 27 7 false _ true rfl (by kernel_rfl) (show 27 < 94 by decide) (hF 7 (by kernel_rfl)) rfl) _ _ _ rfl _ (eval_at 31 11 _ (by kernel_rfl) (show 31 < 94 by decide) (hF 11 (by kernel_rfl))) _ (run_csf2 w1 _) ⟨_, rfl, rfl, Below.refl _ _⟩
            | 13, ho =>
              obtain rfl := Option.some.inj ho
              exact gstep_field rfl (wanted_at 27 7 false _ true rfl (by kernel_rfl) (show 27 < 94 by decide) (hF 7 (by kernel_rfl)) rfl) _ _ _ rfl _ (eval_at 32 12 _ (by kernel_rfl) (show 32 < 94 by decide) (hF 12 (by kernel_rfl))) _ (run_lsf0b w1 _ _) ⟨_, rfl, rfl, Below.refl _ _⟩
            | 14, ho =>
              obtain rfl := Option.some.inj ho
              exact gstep_load rfl (wanted_at 27 7 false _ true rfl (by kernel_rfl) (show 27 < 94 by decide) (hF 7 (by kernel_rfl)) rfl) _ _ rfl _ (eval_at 33 13 _ (by kernel_rfl) (show 33 < 94 by decide) (hF 13 (by kernel_rfl))) _ (run_loadI w1 _ _ (HSB.out w1 hR)) ⟨_, rfl, rfl, Below.refl _ _⟩
            | 15, ho =>
              obtain rfl := Option.some.inj ho
              exact gstep_bin rfl (wanted_at 27 7 false _ true rfl (by kernel_rfl) (show 27 < 94 by decide) (hF 7 (by kernel_rfl)) rfl) _ _ _ _ _ rfl _ _ (eval_at 29 9 _ (by kernel_rfl) (show 29 < 94 by decide) (hF 9 (by kernel_rfl))) (eval_at 34 14 _ (by kernel_rfl) (show 34 < 94 by decide) (hF 14 (by kernel_rfl))) _ (run_leqI w1 _ _ _ HLE.out _ _) ⟨_, rfl, rfl, Below.refl _ _⟩
            | 16, ho =>
              obtain rfl := Option.some.inj ho
              exact gstep_pick rfl (wanted0 rfl) _ _ _ rfl false (eval_at 27 7 _ (by kernel_rfl) (show 27 < 94 by decide) (hF 7 (by kernel_rfl))) _ (by rw [if_neg (by decide)]; exact (eval_at 35 15 _ (by kernel_rfl) (show 35 < 94 by decide) (hF 15 (by kernel_rfl)))) ⟨_, rfl, rfl, Below.refl _ _⟩
            | n + 17, ho => simp at ho
        · intro x w5 hR hF
          have h16 := hF 16 (by decide)
          unfold FPa at h16
          simp only [putAll, Act.put, List.setIfInBounds_toArray, List.set_cons_succ, List.set_cons_zero]
          generalize x 16 = v16 at h16 ⊢
          subst h16
          clear hF
          go_wp2_with fail
          go_meet
          exact ⟨by rw [HBD.out], HDR.out w5 hR⟩
    · have hv' : validB i t (s.size : Int) (sumsOf s).length = false := by simpa using hv
      rw [hv'] at HVA
      have HBD : Hid ((ofL i t s).bad i0 = true) := by show _ = _; unfold Ls.bad ofL; simp [hv']
      refine wp_region_steps (FPc b w1.heap.size ⟨i, t, (s.size : Int), sumsOf s⟩ (.slice la (sumsOf s).length lcap) i0) (fun w w' => Below w.heap.size w w') (by kernel_rfl) (by kernel_rfl) (by kernel_rfl) (Below.refl _ _) ?_ (fun u v w h1 h2 => h1.trans (h2.mono h1.size)) ?_ ?_
      · intro k v w w' _ h1 _
        exact FPc_keep k h1
      · intro k o ho x w1 hR hF
        match k, ho with
          | 0, ho =>
            obtain rfl := Option.some.inj ho
            exact gstep_move rfl (wanted0 rfl) _ rfl _ (eval_of 0 _ (by kernel_rfl) rfl) ⟨_, rfl, rfl, Below.refl _ _⟩
          | 1, ho =>
            obtain rfl := Option.some.inj ho
            exact gstep_bin rfl (wanted0 rfl) _ _ _ _ _ rfl _ _ (eval_at 20 0 _ (by kernel_rfl) (show 20 < 94 by decide) (hF 0 (by kernel_rfl))) rfl _ (run_eqCsP w1 _ _ _) ⟨_, rfl, rfl, Below.refl _ _⟩
          | 2, ho =>
            obtain rfl := Option.some.inj ho
            exact gstep_move rfl (wanted0 rfl) _ rfl _ (eval_at 21 1 _ (by kernel_rfl) (show 21 < 94 by decide) (hF 1 (by kernel_rfl))) ⟨_, rfl, rfl, Below.refl _ _⟩
          | 3, ho =>
            obtain rfl := Option.some.inj ho
            exact gstep_load rfl (wanted_at 22 2 false _ true rfl (by kernel_rfl) (show 22 < 94 by decide) (hF 2 (by kernel_rfl)) rfl) _ _ rfl _ (eval_of 9 _ (by kernel_rfl) rfl) _ (run_loadLs w1 _ _ _ _ _ _ _ (HLB.out w1 hR)) ⟨_, rfl, rfl, Below.refl _ _⟩
          | 4, ho =>
            obtain rfl := Option.some.inj ho
            refine gstep_call rfl (wanted_at 22 2 false _ true rfl (by kernel_rfl) (show 22 < 94 by decide) (hF 2 (by kernel_rfl)) rfl) _ _ _ rfl _ (eval_at 23 3 _ (by kernel_rfl) (show 23 < 94 by decide) (hF 3 (by kernel_rfl))) (call_valid w1 _) ?_
            refine (HVA.out w1).mono ?_
            rintro e w2 ⟨rfl, hb⟩
            exact ⟨_, rfl, _, rfl, rfl, hb⟩
          | 5, ho =>
            obtain rfl := Option.some.inj ho
            exact gstep_not rfl (wanted_at 22 2 false _ true rfl (by kernel_rfl) (show 22 < 94 by decide) (hF 2 (by kernel_rfl)) rfl) _ _ rfl _ (eval_at 24 4 _ (by kernel_rfl) (show 24 < 94 by decide) (hF 4 (by kernel_rfl))) ⟨_, rfl, rfl, Below.refl _ _⟩
          | 6, ho =>
            obtain rfl := Option.some.inj ho
            exact gstep_pick rfl (wanted0 rfl) _ _ _ rfl false (eval_at 22 2 _ (by kernel_rfl) (show 22 < 94 by decide) (hF 2 (by kernel_rfl))) _ (by rw [if_neg (by decide)]; exact (eval_at 25 5 _ (by kernel_rfl) (show 25 < 94 by decide) (hF 5 (by kernel_rfl)))) ⟨_, rfl, rfl, Below.refl _ _⟩
          | 7, ho =>
            obtain rfl := Option.some.inj ho
            exact gstep_move rfl (wanted0 rfl) _ rfl _ (eval_at 26 6 _ (by kernel_rfl) (show 26 < 94 by decide) (hF 6 (by kernel_rfl))) ⟨_, rfl, rfl, Below.refl _ _⟩
          | 8, ho =>
            obtain rfl := Option.some.inj ho
            exact gstep_skip rfl (wanted_at 27 7 false _ false rfl (by kernel_rfl) (show 27 < 94 by decide) (hF 7 (by kernel_rfl)) rfl) ⟨_, rfl, rfl, Below.refl _ _⟩
          | 9, ho =>
            obtain rfl := Option.some.inj ho
            exact gstep_skip rfl (wanted_at 27 7 false _ false rfl (by kernel_rfl) (show 27 < 94 by decide) (hF 7 (by kernel_rfl)) rfl) ⟨_, rfl, rfl, Below.refl _ _⟩
          | 10, ho =>
            obtain rfl := Option.some.inj ho
            exact gstep_skip rfl (wanted_at 27 7 false _ false rfl (by kernel_rfl) (show 27 < 94 by decide) (hF 7 (by kernel_rfl)) rfl) ⟨_, rfl, rfl, Below.refl _ _⟩
          | 11, ho =>
            obtain rfl := Option.some.inj ho
            exact gstep_skip rfl (wanted_at 27 7 false _ false rfl (by kernel_rfl) (show 27 < 94 by decide) (hF 7 (by kernel_rfl)) rfl) ⟨_, rfl, rfl, Below.refl _ _⟩
          | 12, ho =>
            obtain rfl := Option.some.inj ho
            exact gstep_skip rfl (wanted_at 27 7 false _ false rfl (by kernel_rfl) (show 27 < 94 by decide) (hF 7 (by kernel_rfl)) rfl) ⟨_, rfl, rfl, Below.refl _ _⟩
          | 13, ho =>
            obtain rfl := Option.some.inj ho
            exact gstep_skip rfl (wanted_at 27 7 false _ false rfl (by kernel_rfl) (show 27 < 94 by decide) (hF 7 (by kernel_rfl)) rfl) ⟨_, rfl, rfl, Below.refl _ _⟩
          | 14, ho =>
            obtain rfl := Option.some.inj ho
            exact gstep_skip rfl (wanted_at 27 7 false _ false rfl (by kernel_rfl) (show 27 < 94 by decide) (hF 7 (by kernel_rfl)) rfl) ⟨_, rfl, rfl, Below.refl _ _⟩
          | 15, ho =>
            obtain rfl := Option.some.inj ho
            exact gstep_skip rfl (wanted_at 27 7 false _ false rfl (by kernel_rfl) (show 27 < 94 by decide) (hF 7 (by kernel_rfl)) rfl) ⟨_, rfl, rfl, Below.refl _ _⟩
          | 16, ho =>
            obtain rfl := Option.some.inj ho
            exact gstep_pick rfl (wanted0 rfl) _ _ _ rfl true (eval_at 27 7 _ (by kernel_rfl) (show 27 < 94 by decide) (hF 7 (by kernel_rfl))) _ (by rw [if_pos rfl]; exact rfl) ⟨_, rfl, rfl, Below.refl _ _⟩
          | n + 17, ho => simp at ho
      · intro x w5 hR hF
        have h16 := hF 16 (by decide)
        unfold FPc at h16
        simp only [putAll, Act.put, List.setIfInBounds_toArray, List.set_cons_succ, List.set_cons_zero]
        generalize x 16 = v16 at h16 ⊢
        subst h16
        clear hF
        go_wp2_with fail
        go_meet
        exact ⟨by rw [HBD.out], HDR.out w5 hR⟩
  case rest =>
    obtain ⟨rfl, hb3⟩ := hcut
    clear HLB HSB HVA HDR hok
    by_cases hbad : (ofL i t s).bad i0 = true
    · rw [hbad]
      have B3 := HB2.out.trans (hb3.mono HB2.out.size)
      go_wp2_with fail
      go_ret
      exact ⟨1, rfl, .inl ⟨hbad, rfl, H.out.below B3⟩, B3.mono hm, fun j hj => B3.block j (H.out.dev.lt j hj.1)⟩
    · have hbad' : (ofL i t s).bad i0 = false := by simpa using hbad
      rw [hbad']
      have HS3 := Lib.hid (HS2.out.below hb3)
      have HEM := Lib.hid (cempty_any HS3.out)
      simp only at HEM
      have hvd : validB i t (s.size : Int) (sumsOf s).length = true := by
        unfold Ls.bad ofL at hbad'
        simp at hbad'
        exact hbad'.1
      have hcl : (cutS s).length ≤ 64 := by
        unfold validB at hvd
        have := of_decide_eq_true hvd
        have e : (sumsOf s).length = (cutS s).length := by simp [sumsOf]
        omega
      obtain ⟨ar, har⟩ : ∃ ar, ar = nextA i0 area := ⟨_, rfl⟩
      have har1 : 0 ≤ ar ∧ ar ≤ 1 := by
        rw [har]; unfold nextA
        split <;> omega
      obtain ⟨⟨c0, c1, c2, c3, c4, c5, c6⟩, _⟩ := HS3.out.cells
      simp only at c2
      have hbd := Lib.hid hbad'
      have HAR := Lib.hid har
      clear hbad hbad' hvd har
      go_upto_if 39 with (refine HEM.out.mono ?_; rintro e w3' ⟨rfl, rfl⟩)
      go_cut [10] (fun v wx => v = .int .i64 ar ∧ wx = wc)
      case first =>
        by_cases h0 : i0 = 0
        · have ha0 : ar = 0 := by rw [HAR.out]; unfold nextA; rw [if_pos h0]
          subst h0
          subst ha0
          go_wp2_with fail
          go_meet
          exact ⟨rfl, rfl⟩
        · have hd0 : decide (i0 = 0) = false := by simpa using h0
          have harea := H.out.area
          have e1 : IntKind.i64.wrap (area + 1) = area + 1 := IntWalk.i64_in _ (by omega)
          have e2 : (area + 1).tmod 2 = ar := by rw [Int.tmod_eq_emod_of_nonneg (by omega), HAR.out]; unfold nextA; rw [if_neg h0]
          simp only [hd0, Bool.not_false]
          go_wp2_with fail
          go_meet
          exact ⟨rfl, rfl⟩
      case rest =>
        obtain ⟨rfl, rfl⟩ := hcut
        have B3 := HB2.out.trans (hb3.mono HB2.out.size)
        have HB3 := Lib.hid B3
        have hbl := H.out.base
        have HHL := Lib.hid (fun (W : World) (h : Below w2.heap.size w2 W) => show LsB W w1.heap.size i t (s.size : Int) (.slice la (sumsOf s).length lcap) from HL2.out.below h)
        have HLc := Lib.hid (HHL.out wc hb3)
        clear HEM c0 c1 c2 c3 c4 c5 c6
        go_wp2_with fail
        refine (cut_any s (by omega) wc).mono ?_
        rintro e w4 ⟨vs, rfl, hvs, hb4⟩
        have B4 := B3.trans (hb4.mono B3.size)
        have hm4 : m ≤ w4.heap.size := Nat.le_trans hm B4.size
        have hE4 : ∀ j, E j → E j ∨ (w.heap.size ≤ j ∧ j < w4.heap.size) := fun j hj => .inl hj
        have D4 := H.out.dev.growAllC B4
        have L4 := HLc.out.below hb4
        have S4 := HS3.out.below hb4
        have hlb4 : w.heap.size ≤ w1.heap.size ∧ w1.heap.size < w4.heap.size := ⟨hlw, L4.lt⟩
        obtain ⟨va, vcap, rfl⟩ := slice_of hvs
        have HVS := Lib.hid hvs
        have hvb : w.heap.size ≤ wc.heap.size := B3.size
        have R0 : DevW m (fun j => E j ∨ (w.heap.size ≤ j ∧ j < w4.heap.size)) w4 B D := D4
        have HB4 := Lib.hid B4
        have HL4 := Lib.hid L4
        have HS4 := Lib.hid S4
        have hcl2 : (cutS s).length ≤ 9223372036854775807 := by omega
        have HWC4 := Lib.hid hb4
        have hsz4 : w2.heap.size ≤ w4.heap.size := Nat.le_trans hb3.size hb4.size
        clear hvs hb4 B4 D4 L4 S4 B3
        go_wp2_with fail
        go_loopw [49] (fun z wr => ∃ k : Nat, k ≤ (cutS s).length ∧ z = .int .i64 (k : Int) ∧ ∃ Dk, Dv.wrs (base + ar * 66 + 2) i D 0 (cutS s) = Dv.wrs (base + ar * 66 + 2) i Dk k ((cutS s).drop k) ∧ DevW m (fun j => E j ∨ (w.heap.size ≤ j ∧ j < w4.heap.size)) wr B Dk ∧ Below m w4 wr ∧ Kept (fun j => E j ∨ (w.heap.size ≤ j ∧ j < w4.heap.size)) w4 wr ∧ Dk.writes ≤ D.writes + k) (fun z _ => (cutS s).length - (intOf z).toNat)
        case atStart => exact ⟨0, Nat.zero_le _, rfl, D, rfl, R0, Below.refl _ _, Kept.refl _ _, Nat.le_refl _⟩
        case round =>
          obtain ⟨k, hk, rfl, Dk, hwrs, DW, Bk, Kk, hwk⟩ := hrel
          clear R0
          by_cases hlt : k < (cutS s).length
          · have hlt' : (k : Int) < ((cutS s).length : Int) := by omega
            have hk0 : (0 : Int) ≤ (k : Int) := by omega
            have Sk := HS4.out.keep Kk (Or.inl H.out.eb)
            have Lk : LsB wr w1.heap.size i t (s.size : Int) (.slice la (sumsOf s).length lcap) := (Kk w1.heap.size (Or.inr hlb4)).trans HL4.out
            obtain ⟨g, vcap', hv, hgl, hcell⟩ := strs_at HVS.out k hlt
            have hva : va = some ⟨g, 0, none⟩ := by injection hv
            subst hva
            have hgb := World.ownsRow.lt HVS.out g rfl
            obtain ⟨c, hc⟩ : ∃ c, c = (cutS s).getD k ByteArray.empty := ⟨_, rfl⟩
            rw [← hc] at hcell
            have hcell' : wr.cell? ⟨g, k, none⟩ = some (.string c) := (cell_same (i := k) (Kk g (Or.inr ⟨Nat.le_trans hvb hgb.1, hgb.2⟩))).trans hcell
            have hdrop : (cutS s).drop k = c :: (cutS s).drop (k + 1) := by
              rw [List.drop_eq_getElem_cons hlt, hc, List.getD_eq_getElem?_getD, List.getElem?_eq_getElem hlt]; rfl
            rw [hdrop] at hwrs
            have hmk := Nat.le_trans hm4 Bk.size
            obtain ⟨q, hq⟩ : ∃ q : Int, q = base + ar * 66 + 2 := ⟨_, rfl⟩
            have HCB := Lib.hid (fun (W : World) (hb' : Below wr.heap.size wr W) => cchunkb_any (Sk.below hb') ar (k : Int) hbl har1 ⟨hk0, by omega⟩)
            rw [← hq] at HCB hwrs
            have HCR := Lib.hid (fun (W : World) => cchunkr_any i t (s.size : Int) (.slice la (sumsOf s).length lcap) ⟨_, _, _, rfl⟩ (k : Int) c W)
            unfold recV at HCR
            have HWR := Lib.hid (fun (W : World) (hb' : Below wr.heap.size wr W) => devw_swrite (q + (k : Int)) (chunkR i (k : Int) c) (Nat.le_trans hmk hb'.size) (HT.out W (((HB4.out.mono hm).trans Bk).trans (hb'.mono hmk))) (by omega) (DW.below hb'))
            unfold recV at HWR
            have HWQ := Lib.hid (c_swrite_writes Dk (q + (k : Int)) (chunkR i (k : Int) c))
            obtain ⟨⟨c0, _⟩, _⟩ := Sk.cells
            obtain ⟨⟨l0, l1, l2, l3⟩, _⟩ := Lk.cells
            have HCW := Lib.hid (fun (W : World) (hb' : Below wr.heap.size wr W) => show W.cell? ⟨b, 0, none⟩ = some (.pointer (some ⟨B, 0, none⟩)) ∧ LsB W w1.heap.size i t (s.size : Int) (.slice la (sumsOf s).length lcap) from ⟨(Sk.below hb').cells.1.1, Lk.below hb'⟩)
            have HKC := Lib.hid (fun (W x : World) (hb' : Below wr.heap.size wr W) (hk' : Kept (fun j => E j ∨ (w.heap.size ≤ j ∧ j < w4.heap.size)) W x) => show x.cell? ⟨b, 0, none⟩ = some (.pointer (some ⟨B, 0, none⟩)) ∧ LsB x w1.heap.size i t (s.size : Int) (.slice la (sumsOf s).length lcap) from ⟨((Sk.below hb').keep hk' (Or.inl H.out.eb)).cells.1.1, (hk' w1.heap.size (Or.inr hlb4)).trans (Lk.below hb')⟩)
            have bd := (Below.refl wr.heap.size wr).drew
            have HWS := Lib.hid hwrs
            have HBk := Lib.hid Bk
            have HKk := Lib.hid Kk
            have HDl := Lib.hid DW.lt
            have HQ := Lib.hid hq
            clear Sk Lk DW Bk Kk hwrs hdrop hc hcell hv hq
            go_wp2_with fail
            go_cut [13] (fun v wx => v = .int .i64 (Dk.swrite (q + (k : Int)) (chunkR i (k : Int) c)).1 ∧ DevW m (fun j => E j ∨ (w.heap.size ≤ j ∧ j < w4.heap.size)) wx B (Dk.swrite (q + (k : Int)) (chunkR i (k : Int) c)).2 ∧ Below m w4 wx ∧ Kept (fun j => E j ∨ (w.heap.size ≤ j ∧ j < w4.heap.size)) w4 wx)
            case first =>
              go_region_held3 (fun w' => w'.cell? ⟨b, 0, none⟩ = some (.pointer (some ⟨B, 0, none⟩)) ∧ w'.cell? ⟨w1.heap.size, 0, none⟩ = some (.int .i64 i) ∧ w'.cell? ⟨w1.heap.size, 1, none⟩ = some (.int .i64 t) ∧ w'.cell? ⟨w1.heap.size, 2, none⟩ = some (.int .i64 (s.size : Int)) ∧ w'.cell? ⟨w1.heap.size, 3, none⟩ = some (.slice la (sumsOf s).length lcap)) (first | (with_reducible assumption) | (refine ⟨?_, ?_, ?_, ?_, ?_⟩ <;> with_reducible assumption) | go_keep)
                ((first
                  | (go_at_call 78; refine (HCB.out _ ?hBa).mono ?_; (case hBa => first | (with_reducible exact b5) | (with_reducible exact bd)); rintro e w5 ⟨rfl, rfl⟩)
                  | (go_at_call 79; refine (HCR.out _).mono ?_; rintro e w5 ⟨rfl, hb5⟩; have b5 := bd.trans (hb5.mono bd.size); obtain ⟨k0, k1⟩ := HCW.out w5 b5; obtain ⟨⟨m0, m1, m2, m3⟩, _⟩ := k1.cells)
                  | (go_at_call 77; refine (HWR.out _ b5).mono ?_; rintro e w6 ⟨rfl, D6, b6, k6⟩; obtain ⟨n0', n1⟩ := HKC.out w5 w6 b5 k6; obtain ⟨⟨o0, o1, o2, o3⟩, _⟩ := n1.cells)))
              all_goals (go_wp2_with fail; go_meet)
              all_goals exact ⟨rfl, D6, HBk.out.trans ((b5.mono hmk).trans b6), fun j hj => (k6 j hj).trans ((b5.block j (HDl.out j hj)).trans (HKk.out j hj))⟩
            case rest =>
              obtain ⟨rfl, D6, B6, K6⟩ := hcut
              clear HCB HCR HWR HCW HKC bd c0 l0 l1 l2 l3 hcell'
              by_cases hz : (Dk.swrite (q + (k : Int)) (chunkR i (k : Int) c)).1 = 0
              · have HWN := HWS.out.trans (wrs_go hz)
                rw [HQ.out] at HWN
                have HWN' := Lib.hid HWN
                clear HWN
                rw [hz]
                go_wp2_with fail
                go_roundw
                case rel => exact ⟨k + 1, by omega, by go_num, _, HWN'.out, by rw [← HQ.out]; exact D6, B6, K6, by have := HWQ.out; rw [← HQ.out]; omega⟩
                case measure => simp [intOf]; omega
              · have hz2 : ((Dk.swrite (q + (k : Int)) (chunkR i (k : Int) c)).1 == 0) = false := by simp [hz]
                have hz3 : ((Dk.swrite (q + (k : Int)) (chunkR i (k : Int) c)).1 != 0) = true := by simp [hz]
                have HWN := HWS.out.trans (wrs_stop hz)
                have HP : Hid (putP D base i0 area i t s = Dk.swrite (q + (k : Int)) (chunkR i (k : Int) c)) := by
                  show putP D base i0 area i t s = _
                  unfold putP
                  rw [← HAR.out, ← HQ.out, put7_stop (by rw [HWN]; exact hz), HWN]
                clear HWN
                go_wp2_with fail
                go_ret
                refine ⟨_, rfl, .inr ⟨hbd.out, by rw [HP.out], _, hE4, .inr ⟨by rw [HP.out]; exact hz, ?_⟩⟩, ?_, ?_⟩
                · rw [HP.out]
                  exact H.out.turn D6 (fun j hj => (K6 j (Or.inl hj)).trans (HB4.out.block j (H.out.dev.lt j hj))) hE4 (Nat.le_trans HB4.out.size B6.size)
                · exact (HB4.out.mono hm).trans B6
                · exact fun j hj => (K6 j (Or.inl hj.1)).trans (HB4.out.block j (H.out.dev.lt j hj.1))
          · obtain rfl : k = (cutS s).length := by omega
            have hwz : Dv.wrs (base + ar * 66 + 2) i D 0 (cutS s) = (0, Dk) := by rw [hwrs, List.drop_length]; rfl
            have HWZ := Lib.hid hwz
            have Sk := HS4.out.keep Kk (Or.inl H.out.eb)
            have Lk : LsB wr w1.heap.size i t (s.size : Int) (.slice la (sumsOf s).length lcap) := (Kk w1.heap.size (Or.inr hlb4)).trans HL4.out
            have hmk := Nat.le_trans hm4 Bk.size
            have HFL := Lib.hid (devw_flush hmk (by omega) DW)
            obtain ⟨⟨c0, _⟩, _⟩ := Sk.cells
            have hnl : ¬ (((cutS s).length : Nat) : Int) < ((cutS s).length : Int) := by omega
            have HSk := Lib.hid Sk
            have HLk := Lib.hid Lk
            have HBk := Lib.hid Bk
            have HKk := Lib.hid Kk
            have HFW := Lib.hid (c_flush_writes Dk)
            have HDF := Lib.hid (c_flush_err (D := Dk))
            clear hwrs hwz DW Bk Kk Sk Lk hlt
            go_wp2_with fail
            refine HFL.out.mono ?_
            rintro e w5 ⟨rfl, D5, B5, K5⟩
            by_cases hz : Dk.flush.1 = 0
            · rw [hz]
              have hzz := Lib.hid hz
              clear hz HFL c0
              have S5 := HSk.out.keep K5 (Or.inl H.out.eb)
              have L5 : LsB w5 w1.heap.size i t (s.size : Int) (.slice la (sumsOf s).length lcap) := (K5 w1.heap.size (Or.inr hlb4)).trans HLk.out
              have hlo : ∀ g, (Value.slice la (sumsOf s).length lcap).ownBlock = some g → w.heap.size ≤ g ∧ g < w4.heap.size ∧ g < w2.heap.size := fun g hg => by
                have h1 := World.ownsRow.lt HO2.out g hg
                have h2 := hb3.size
                have h3 := HVS.out
                exact ⟨h1.1, by have := hb3.size; have := h1.2; omega, h1.2⟩
              have hE1 : ∀ g, (Value.slice la (sumsOf s).length lcap).ownBlock = some g → E g ∨ (w.heap.size ≤ g ∧ g < w4.heap.size) := fun g hg => .inr ⟨(hlo g hg).1, (hlo g hg).2.1⟩
              have M5 : SmR w5 (.slice la (sumsOf s).length lcap) (sumsOf s) := by
                have M3 := HM2.out.below hb3
                have M4 := M3.below HWC4.out
                exact (M4.keep HKk.out hE1 HBk.out.size).keep K5 hE1 B5.size
              have hm5 := Nat.le_trans hmk B5.size
              have HWC := Lib.hid (cwritec_any (E := fun j => E j ∨ (w.heap.size ≤ j ∧ j < w4.heap.size)) ar 0 (ofL i t s) (.slice la (sumsOf s).length lcap) D5 S5 (Or.inl H.out.eb) hm5 (fun x hx => HT.out x ((((HB4.out.mono hm).trans HBk.out).trans B5).trans hx)) (by have := HFW.out; omega) M5 hE1 ⟨by show (0 : Int) ≤ (s.size : Int); omega, by show (s.size : Int) ≤ _; omega⟩ hbl har1 (.inl rfl))
              unfold lsV ofL at HWC
              simp only at HWC
              obtain ⟨⟨l0, l1, l2, l3⟩, _⟩ := L5.cells
              have HS5 := Lib.hid S5
              have HL5 := Lib.hid L5
              have HM5 := Lib.hid M5
              have HK5 := Lib.hid K5
              have HB5 := Lib.hid B5
              have HE1 := Lib.hid hE1
              have HLO := Lib.hid hlo
              clear S5 L5 M5 K5 B5 D5 hE1 hlo
              go_wp2_with fail
              refine HWC.out.mono ?_
              rintro e w6 ⟨rfl, D6, B6, K6⟩
              obtain ⟨P, hP⟩ : ∃ P, P = Dk.flush.2.pair (wcB base ar 0 0) (wcB base ar 0 1) (listR ⟨i, t, (s.size : Int), sumsOf s⟩) := ⟨_, rfl⟩
              rw [← hP] at D6 ⊢
              have HPP : Hid (putP D base i0 area i t s = P) := by
                show putP D base i0 area i t s = _
                unfold putP
                rw [← HAR.out, put7_go (by rw [HWZ.out]) (by rw [HWZ.out]; exact hzz.out), HWZ.out, hP]
                rfl
              have hKK : Kept E w w6 := fun j hj => (K6 j (Or.inl hj)).trans ((HK5.out j (Or.inl hj)).trans ((HKk.out j (Or.inl hj)).trans (HB4.out.block j (H.out.dev.lt j hj))))
              have hSZ : w.heap.size ≤ w6.heap.size := Nat.le_trans HB4.out.size (Nat.le_trans HBk.out.size (Nat.le_trans HB5.out.size B6.size))
              have hBB : Below m w w6 := (((HB4.out.mono hm).trans HBk.out).trans HB5.out).trans B6
              have HKK := Lib.hid hKK
              clear HWC hP hKK
              by_cases hz : P.1 = 0
              · have HZ := Lib.hid hz
                rw [hz]
                have S6 := HS5.out.keep K6 (Or.inl H.out.eb)
                have L6 : LsB w6 w1.heap.size i t (s.size : Int) (.slice la (sumsOf s).length lcap) := (K6 w1.heap.size (Or.inr hlb4)).trans HL5.out
                have M6 := HM5.out.keep K6 HE1.out B6.size
                obtain ⟨⟨l0, l1, l2, l3⟩, _⟩ := L6.cells
                obtain ⟨⟨d0, d1, d2, d3, d4, d5, d6⟩, q2, q3, q4, q5, q6⟩ := S6.cells
                have hbw : b < w.heap.size := H.out.dev.lt b H.out.eb
                have y1 : ¬ b = w1.heap.size := by omega
                have y2 : ¬ w1.heap.size = b := by omega
                have HTK := Lib.hid (fun (W : World) (hR : RA b B base i0 t0 n0 sv ar w6.drew W) (hC : CsB W b B base i0 t0 n0 sv ar) => show TakeRel m (fun j => E j ∨ (w.heap.size ≤ j ∧ j < w4.heap.size)) w6 b B base i t (s.size : Int) (.slice la (sumsOf s).length lcap) ar P.2 (setCl W b i t (s.size : Int) (.slice la (sumsOf s).length lcap)) from by
                  have h := take3 (w := w6.drew) hR hC D6.drew (Or.inl H.out.eb) H.out.mb i t (s.size : Int) (.slice la (sumsOf s).length lcap)
                  exact ⟨h.1, h.2.1, ((Below.refl m w6).drew).trans h.2.2.1, h.2.2.2⟩)
                have HLB := Lib.hid (fun (W : World) (hR : RA b B base i0 t0 n0 sv ar w6.drew W) => show LsB W w1.heap.size i t (s.size : Int) (.slice la (sumsOf s).length lcap) from (hR.block _ y2).trans L6)
                have HCS := Lib.hid (fun (W : World) (hR : RA b B base i0 t0 n0 sv ar w6.drew W) => show ∃ a, CsB W b B base i0 t0 n0 sv a ∧ W.frozen? ⟨b, 6, none⟩ = false from by
                  rcases hR.st area S6 with h | h
                  · exact ⟨_, h, h.cells.2.2.2.2.2⟩
                  · exact ⟨_, h, h.cells.2.2.2.2.2⟩)
                clear hz S6 L6 D6 K6 B6
                have HM6 := Lib.hid M6
                clear M6
                go_wp2_with fail
                go_cut [] (fun wx => TakeRel m (fun j => E j ∨ (w.heap.size ≤ j ∧ j < w4.heap.size)) w6 b B base i t (s.size : Int) (.slice la (sumsOf s).length lcap) ar P.2 wx)
                case first =>
                  refine wp_region_steps_tail 9 0 (FTk b w1.heap.size B base i0 t0 n0 sv ⟨i, t, (s.size : Int), sumsOf s⟩ (.slice la (sumsOf s).length lcap) ar) (RA b B base i0 t0 n0 sv ar) (by kernel_rfl) (by kernel_rfl) (by kernel_rfl) (by kernel_rfl) (by kernel_rfl) (by kernel_rfl) (RA.refl _ _ _ _ _ _ _ _ _) ?_ (fun u v w h1 h2 => h1.trans h2) ?_ ?_
                  · intro k v w w' _ h1 h2
                    exact FTk_keep h2 k h1
                  · intro k o hi ho x w1' hR hF hX
                    match k, ho with
                      | 0, ho =>
                        obtain rfl := Option.some.inj ho
                        exact gstep_move rfl (wanted0 rfl) _ rfl _ (eval_of 0 _ (by kernel_rfl) rfl) ⟨_, rfl, rfl, RA.refl _ _ _ _ _ _ _ _ _⟩
                      | 1, ho =>
                        obtain rfl := Option.some.inj ho
                        exact gstep_move rfl (wanted0 rfl) _ rfl _ (eval_of 0 _ (by kernel_rfl) rfl) ⟨_, rfl, rfl, RA.refl _ _ _ _ _ _ _ _ _⟩
                      | 2, ho =>
                        obtain rfl := Option.some.inj ho
                        exact gstep_move rfl (wanted0 rfl) _ rfl _ (eval_of 10 _ (by kernel_rfl) rfl) ⟨_, rfl, rfl, RA.refl _ _ _ _ _ _ _ _ _⟩
                      | 3, ho =>
                        obtain rfl := Option.some.inj ho
                        exact gstep_load rfl (wanted0 rfl) _ _ rfl _ (eval_of 9 _ (by kernel_rfl) rfl) _ (run_loadLs w1' _ _ _ _ _ _ _ (HLB.out w1' hR)) ⟨_, rfl, rfl, RA.refl _ _ _ _ _ _ _ _ _⟩
                      | 4, ho =>
                        obtain rfl := Option.some.inj ho
                        exact gstep_nil rfl (wanted0 rfl) _ rfl _ (eval_at 86 0 _ (by kernel_rfl) (show 86 < 94 by decide) (hF 0 (by kernel_rfl))) ⟨_, rfl, rfl, RA.refl _ _ _ _ _ _ _ _ _⟩
                      | 5, ho =>
                        obtain rfl := Option.some.inj ho
                        exact gstep_field rfl (wanted0 rfl) _ _ _ rfl _ (eval_at 90 4 _ (by kernel_rfl) (show 90 < 94 by decide) (hF 4 (by kernel_rfl))) _ (run_csf3 w1' _) ⟨_, rfl, rfl, RA.refl _ _ _ _ _ _ _ _ _⟩
                      | 6, ho =>
                        obtain rfl := Option.some.inj ho
                        obtain ⟨a, hCa, hf6⟩ := HCS.out w1' hR
                        refine gstep_store rfl (wanted0 rfl) _ _ _ rfl _ _ (eval_at 91 5 _ (by kernel_rfl) (show 91 < 94 by decide) (hF 5 (by kernel_rfl))) (eval_at 88 2 _ (by kernel_rfl) (show 88 < 94 by decide) (hF 2 (by kernel_rfl))) _ (run_storeI w1' _ _ _ hCa.cells.1.2.2.2.2.2.2 hf6) ⟨_, rfl, hCa.setArea ar, RA.set hCa⟩
                      | 7, ho =>
                        obtain rfl := Option.some.inj ho
                        exact gstep_nil rfl (wanted0 rfl) _ rfl _ (eval_at 87 1 _ (by kernel_rfl) (show 87 < 94 by decide) (hF 1 (by kernel_rfl))) ⟨_, rfl, rfl, RA.refl _ _ _ _ _ _ _ _ _⟩
                      | 8, ho =>
                        obtain rfl := Option.some.inj ho
                        exact gstep_field rfl (wanted0 rfl) _ _ _ rfl _ (eval_at 92 7 _ (by kernel_rfl) (show 92 < 94 by decide) (hF 7 (by kernel_rfl))) _ (run_csf2 w1' _) ⟨_, rfl, rfl, RA.refl _ _ _ _ _ _ _ _ _⟩
                      | n + 9, ho => exact absurd hi (by omega)
                  · intro x' w7 hR hF
                    have h3 : x' 3 = .agg #[.int .i64 i, .int .i64 t, .int .i64 (s.size : Int), .slice la (sumsOf s).length lcap] := hF 3 (by decide)
                    have h6 : CsB w7 b B base i0 t0 n0 sv ar := hF 6 (by decide)
                    have h8 : x' 8 = .pointer (some ⟨b, 2, none⟩) := hF 8 (by decide)
                    refine gstep_store rfl (wanted0 rfl) _ _ _ rfl _ _ (eval_at 93 8 _ (by kernel_rfl) (show 93 < 94 by decide) h8) (eval_at 89 3 _ (by kernel_rfl) (show 89 < 94 by decide) h3) _ (run_storeCl w7 b B base i0 t0 n0 ar sv h6 _ _ _ _ _ _) ?_
                    unfold tailK
                    simp only [putAll, Act.put, List.setIfInBounds_toArray, List.set_cons_succ, List.set_cons_zero]
                    have TT := HTK.out w7 hR h6
                    generalize setCl w7 b i t (s.size : Int) (.slice la (sumsOf s).length lcap) = w8 at TT ⊢
                    clear hF hR h6
                    go_wp2_with fail
                    go_meet
                    exact TT
                case rest =>
                  obtain ⟨C7, D7, B7, K7⟩ := hcut
                  go_wp2_with fail
                  go_ret
                  refine ⟨0, rfl, .inr ⟨hbd.out, by rw [HPP.out, HZ.out], _, hE4, .inl ⟨by rw [HPP.out]; exact HZ.out, .slice la (sumsOf s).length lcap, ?_⟩⟩, hBB.trans B7, fun j hj => (K7 j ⟨Or.inl hj.1, hj.2⟩).trans (HKK.out j hj.1)⟩
                  rw [HPP.out, ← HAR.out]
                  have hbw2 : b < w.heap.size := H.out.dev.lt b H.out.eb
                  have hgb : ∀ g, (Value.slice la (sumsOf s).length lcap).ownBlock = some g → g ≠ b := fun g hg => by have := (HLO.out g hg).1; omega
                  exact ⟨D7, C7, Or.inl H.out.eb, H.out.mb, HM6.out.keep K7 (fun g hg => ⟨HE1.out g hg, hgb g hg⟩) B7.size, fun g hg => ⟨HE1.out g hg, hgb g hg⟩, ⟨by show (0 : Int) ≤ (s.size : Int); omega, by show (s.size : Int) ≤ _; omega⟩, hbl, by clear K7 B7 C7 D7; omega⟩
              · have hz2 : (P.1 == 0) = false := by simp [hz]
                have hz3 : (P.1 != 0) = true := by simp [hz]
                have HZ := Lib.hid hz
                go_wp2_with fail
                go_ret
                refine ⟨_, rfl, .inr ⟨hbd.out, by rw [HPP.out], _, hE4, .inr ⟨by rw [HPP.out]; exact HZ.out, ?_⟩⟩, hBB, HKK.out.mono (fun j hj => hj.1)⟩
                rw [HPP.out]
                exact H.out.turn D6 HKK.out hE4 hSZ
            · have hz5 : Dk.flush.1 = 5 := HDF.out.resolve_left hz
              have HP : Hid (putP D base i0 area i t s = Dk.flush) := by
                show putP D base i0 area i t s = _
                unfold putP
                rw [← HAR.out, put7_flush (by rw [HWZ.out]) (by rw [HWZ.out]; exact hz), HWZ.out]
              have HZ := Lib.hid hz
              rw [hz5]
              clear hz
              go_wp2_with fail
              go_ret
              refine ⟨5, rfl, .inr ⟨hbd.out, by rw [HP.out, hz5], _, hE4, .inr ⟨by rw [HP.out]; exact HZ.out, ?_⟩⟩, ?_, ?_⟩
              · rw [HP.out]
                exact H.out.turn D5 (fun j hj => (K5 j (Or.inl hj)).trans ((HKk.out j (Or.inl hj)).trans (HB4.out.block j (H.out.dev.lt j hj)))) hE4 (Nat.le_trans HB4.out.size (Nat.le_trans HBk.out.size B5.size))
              · exact ((HB4.out.mono hm).trans HBk.out).trans B5
              · exact fun j hj => (K5 j (Or.inl hj.1)).trans ((HKk.out j (Or.inl hj.1)).trans (HB4.out.block j (H.out.dev.lt j hj.1)))
end Go.Proofs.YtiknfifiglooeaaDoor
