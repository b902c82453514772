/- listOf: what a copy's block says, in pure words; and the two regions of the code that read it, in any order. No conditions beyond those in each statement. listOf, for any record. No conditions beyond those in each statement. readCopy: a copy of the list, as it is on the device. No conditions beyond those in each statement. -/
import Derived.Test.YtiknfifiglooeaaDoorChunkLr
import Derived.Test.YtiknfifiglooeaaDoorInvar6
import Derived.Laws.AppendOwn
import Derived.Test.YtiknfifiglooeaaDoorChunkHu
namespace Go.Proofs.YtiknfifiglooeaaDoor
section
open Go Go.RowKit Go.Proofs.Tryd
set_option linter.unusedVariables false
set_option maxRecDepth 100000

/-- So many sums from a reader. -/
def rdSm : Nat → RS → List Int × RS
  | 0, st => ([], st)
  | k + 1, st => ((rdSm k st).1 ++ [(numF 6 4294967295 (rdSm k st).2).1], (numF 6 4294967295 (rdSm k st).2).2)
theorem rdSm_length (k : Nat) (st : RS) : (rdSm k st).1.length = k := by
  induction k with
  | zero => rfl
  | succ k ih => simp [rdSm, ih]
theorem numF_most (n : Nat) (most : Int) (h0 : 0 ≤ most) (st : RS) : 0 ≤ (numF n most st).1 ∧ (numF n most st).1 ≤ most := by
  cases st with
  | none => exact ⟨Int.le_refl 0, h0⟩
  | some l =>
    by_cases hc : l.length < n ∨ most < (val (l.take n) : Int)
    · simp only [numF, hc, if_true]
      exact ⟨Int.le_refl 0, h0⟩
    · simp only [numF, hc, if_false]
      refine ⟨by simp, ?_⟩
      simp only [not_or] at hc
      omega
theorem rdSm_in (k : Nat) (st : RS) : ∀ z ∈ (rdSm k st).1, 0 ≤ z ∧ z ≤ 4294967295 := by
  induction k with
  | zero => intro z hz; cases hz
  | succ k ih =>
    intro z hz
    rcases List.mem_append.1 hz with hz | hz
    · exact ih z hz
    · rw [List.mem_singleton.1 hz]; exact numF_most _ _ (by decide) _
def ls0 : Ls := ⟨0, 0, 0, []⟩
def loA (r : Rc) : Int × RS := numF 6 281474976710655 (some r.data.data.toList)
def loB (r : Rc) : Int × RS := numF 6 64 (loA r).2
def loC (r : Rc) : List Int × RS := rdSm (loB r).1.toNat (loB r).2
/-- What a copy's block says. -/
def listF (r : Rc) : Ls := if r.kind = 4 ∧ doneF (loC r).2 = 0 ∧ validB r.index r.term (loA r).1 (loC r).1.length = true then ⟨r.index, r.term, (loA r).1, (loC r).1⟩ else ls0
/-- All lies as it lay, but one block and one row. -/
structure FrL (b : Nat) (r : Option Nat) (w w' : World) : Prop where
  os : w'.os = w.os
  tape : w'.tape = w.tape
  output : w'.output = w.output
  size : w.heap.size ≤ w'.heap.size
  block : ∀ k, k < w.heap.size → k ≠ b → some k ≠ r → w'.heap[k]? = w.heap[k]?
theorem FrL.below {w w' : World} {b : Nat} {r : Option Nat} (h : FrL b r w w') {base : Nat} (h1 : base ≤ b) (h2 : ∀ q, r = some q → base ≤ q) (h3 : base ≤ w.heap.size) : Below base w w' :=
  ⟨h.os, h.tape, h.output, h.size, fun k hk => h.block k (by omega) (by omega) (fun e => by have := h2 k e.symm; omega)⟩
theorem FrL.of_two {w u x : World} {b : Nat} {r : Option Nat} (h : w.grownBy u (some b)) (k : u.grownBy x r) : FrL b r w x :=
  ⟨k.os.trans h.os, k.tape.trans h.tape, k.output.trans h.output, Nat.le_trans h.size k.size, fun j hj h1 h2 => (k.block j (Nat.lt_of_lt_of_le hj h.size) h2).trans (h.block j hj (fun e => h1 (Option.some.inj e)))⟩
theorem Rs.block {w : World} {b : Nat} {st : RS} (h : Rs w b st) : ∃ cs, w.heap[b]? = some (.cells cs 195 (0, 0)) := by
  cases st with
  | none => exact ⟨_, h⟩
  | some l => exact ⟨_, h.1⟩
theorem Rs.not_row {w : World} {b : Nat} {st : RS} (h : Rs w b st) {base k : Nat} {v : Value} {xs : List Value} (hr : w.ownsRow base 70 1 v k xs) : some b ≠ v.ownBlock := by
  intro e
  obtain ⟨cs, hcs⟩ := ownsRow_block hr e.symm
  obtain ⟨cs', h⟩ := h.block
  rw [hcs] at h
  simp at h
theorem Rs.not_ls {w : World} {b lb : Nat} {st : RS} (h : Rs w b st) {i t n : Int} {sv : Value} (hl : LsB w lb i t n sv) : lb ≠ b := by
  intro e
  obtain ⟨cs', h⟩ := h.block
  unfold LsB at hl
  rw [e, h] at hl
  simp at hl
theorem Rs.same {w w' : World} {b : Nat} {st : RS} (h : Rs w b st) (e : w'.heap[b]? = w.heap[b]?) : Rs w' b st := by
  cases st with
  | none => exact e.trans h
  | some l => exact ⟨e.trans h.1, h.2⟩
theorem call_rnum (W : World) (u v : Value) : (callFunc 106 #[u, v]).run Tryd.prog W = .ok (.enter 106 #[u, v]) W := by go_simp
section
variable {Q : Exit → Act → World → Prop} {l : List Oper}
theorem gstep_u32 {i : Nat} {o : Oper} {a : Act} {w : World} {K : Act → World → Prop} (ho : l[i]? = some o) (hw : WantedIs l a o true) (s : Operand) (hop : o.op = .convert 3 70 s) (z : Int) (he : a.eval s = .int .i64 z) (hz : 0 ≤ z ∧ z ≤ 4294967295)
    (h : K (a.put o.dst (.int .u32 z)) w) : Step Tryd.prog l Q i K a w :=
  gstep_value ho hw _ w (by
    have e : IntKind.u32.wrap z = z := by rw [IntKind.wrap_u32]; omega
    simp only [execOp, hop, he]
    go_simp) h
end
/-- What has run of a sum's reading. -/
def F7 (lb rb : Nat) (sv : Value) (z : Int) : Nat → Value → Prop
  | 0, v | 7, v => v = .pointer (some ⟨lb, 3, none⟩)
  | 1, v => v = sv
  | 2, v => v = .pointer (some ⟨rb, 0, none⟩)
  | 3, v => v = .int .i64 z
  | 4, v => v = .int .u32 z
  | _, _ => True
structure J7 (w0 : World) (base rb : Nat) (sv : Value) (ss : List Int) (z : Int) (s0 s1 : RS) (b : Nat → Bool) (x : Nat → Value) (w : World) : Prop where
  o4 : b 4 = true → b 3 = true
  o5 : b 5 = true → b 4 = true
  o6 : b 6 = true → b 5 = true ∧ b 1 = true
  rd : Rs w rb (if b 3 = true then s1 else s0)
  one : b 6 = false → w0.grownBy w (some rb)
  new : b 6 = false → b 5 = true → ∃ g, x 5 = .slice (some ⟨g, 0, none⟩) 1 1 ∧ w.heap[g]? = some (.cells #[.int .u32 z] 70 (0, 0))
  done : b 6 = true → FrL rb sv.ownBlock w0 w ∧ w.ownsRow base 70 1 (x 6) (ss.length + 1) (smCells (ss ++ [z]))
section
variable {w0 w : World} {base rb lb : Nat} {sv : Value} {ss : List Int} {z : Int} {s0 s1 : RS} {b : Nat → Bool} {x : Nat → Value}
theorem J7.start (h : Rs w0 rb s0) (x : Nat → Value) : J7 w0 base rb sv ss z s0 s1 (fun _ => false) x w0 where
  o4 := fun h => by cases h
  o5 := fun h => by cases h
  o6 := fun h => by cases h
  rd := h
  one := fun _ => only_refl w0 _
  new := fun _ h => by cases h
  done := fun h => by cases h
theorem J7.off6 (h : J7 w0 base rb sv ss z s0 s1 b x w) {k : Nat} (hk : k = 1 ∨ k = 3 ∨ k = 5 ∨ k = 6) (hb : b k = false) : b 6 = false := by
  cases e : b 6 with
  | false => rfl
  | true =>
    obtain ⟨h5, h1⟩ := h.o6 e
    have h4 := h.o5 h5
    have h3 := h.o4 h4
    rcases hk with rfl | rfl | rfl | rfl
    · rw [hb] at h1; cases h1
    · rw [hb] at h3; cases h3
    · rw [hb] at h5; cases h5
    · rw [hb] at e; cases e
theorem J7.pure (h : J7 w0 base rb sv ss z s0 s1 b x w) {k : Nat} {v : Value} (hk : k ≠ 3 ∧ k ≠ 4 ∧ k ≠ 5 ∧ k ≠ 6) : J7 w0 base rb sv ss z s0 s1 (setB b k) (setX x k v) w := by
  obtain ⟨h3, h4, h5, h6⟩ := hk
  have e3 := setB_ne (b := b) (Ne.symm h3)
  have e4 := setB_ne (b := b) (Ne.symm h4)
  have e5 := setB_ne (b := b) (Ne.symm h5)
  have e6 := setB_ne (b := b) (Ne.symm h6)
  refine ⟨?_, ?_, ?_, ?_, ?_, ?_, ?_⟩
  · rw [e3, e4]; exact h.o4
  · rw [e4, e5]; exact h.o5
  · rw [e5, e6]
    intro e
    obtain ⟨a1, a2⟩ := h.o6 e
    refine ⟨a1, ?_⟩
    unfold setB
    split
    · rfl
    · exact a2
  · rw [e3]; exact h.rd
  · rw [e6]; exact h.one
  · rw [e6, e5, setX_ne (Ne.symm h5)]; exact h.new
  · rw [e6, setX_ne (Ne.symm h6)]; exact h.done
theorem J7.conv (h : J7 w0 base rb sv ss z s0 s1 b x w) (h3 : b 3 = true) {v : Value} : J7 w0 base rb sv ss z s0 s1 (setB b 4) (setX x 4 v) w := by
  have e3 := setB_ne (b := b) (show (3 : Nat) ≠ 4 by decide)
  have e5 := setB_ne (b := b) (show (5 : Nat) ≠ 4 by decide)
  have e6 := setB_ne (b := b) (show (6 : Nat) ≠ 4 by decide)
  have e1 := setB_ne (b := b) (show (1 : Nat) ≠ 4 by decide)
  refine ⟨?_, ?_, ?_, ?_, ?_, ?_, ?_⟩
  · rw [e3]; exact fun _ => h3
  · intro _; exact setB_same _ _
  · rw [e5, e6, e1]; exact h.o6
  · rw [e3]; exact h.rd
  · rw [e6]; exact h.one
  · rw [e6, e5, setX_ne (by decide)]; exact h.new
  · rw [e6, setX_ne (by decide)]; exact h.done
theorem J7.num (h : J7 w0 base rb sv ss z s0 s1 b x w) (hb : b 3 = false) {v : Value} {w' : World} (hr : Rs w' rb s1) (hg : w.grownBy w' (some rb)) : J7 w0 base rb sv ss z s0 s1 (setB b 3) (setX x 3 v) w' := by
  have h6 := h.off6 (.inr (.inl rfl)) hb
  have h5 : b 5 = false := by
    cases e : b 5 with
    | false => rfl
    | true => have := h.o4 (h.o5 e); rw [hb] at this; cases this
  have e4 := setB_ne (b := b) (show (4 : Nat) ≠ 3 by decide)
  have e5 := setB_ne (b := b) (show (5 : Nat) ≠ 3 by decide)
  have e6 := setB_ne (b := b) (show (6 : Nat) ≠ 3 by decide)
  refine ⟨?_, ?_, ?_, ?_, ?_, ?_, ?_⟩
  · intro _; exact setB_same _ _
  · rw [e4, e5]; exact h.o5
  · rw [e6, h6]; exact fun e => by cases e
  · rw [setB_same]; exact hr
  · intro _; exact only_trans (h.one h6) hg
  · rw [e5, h5]; exact fun _ e => by cases e
  · rw [e6, h6]; exact fun e => by cases e
theorem J7.made (h : J7 w0 base rb sv ss z s0 s1 b x w) (hb : b 5 = false) (h4 : b 4 = true) : J7 w0 base rb sv ss z s0 s1 (setB b 5) (setX x 5 (.slice (some ⟨w.heap.size, 0, none⟩) 1 1)) (w.alloc (.cells #[.int .u32 z] 70)) := by
  have h6 := h.off6 (.inr (.inr (.inl rfl))) hb
  have e3 := setB_ne (b := b) (show (3 : Nat) ≠ 5 by decide)
  have e4 := setB_ne (b := b) (show (4 : Nat) ≠ 5 by decide)
  have e6 := setB_ne (b := b) (show (6 : Nat) ≠ 5 by decide)
  refine ⟨?_, ?_, ?_, ?_, ?_, ?_, ?_⟩
  · rw [e4, e3]; exact h.o4
  · rw [e4]; exact fun _ => h4
  · rw [e6, h6]; exact fun e => by cases e
  · rw [e3]; exact h.rd.below ((Below.refl _ _).alloc (Nat.le_refl _) _)
  · intro _; exact only_alloc (h.one h6) _
  · intro _ _; exact ⟨w.heap.size, setX_same _ _ _, heap_alloc_new w _⟩
  · rw [e6, h6]; exact fun e => by cases e
theorem J7.row (h : J7 w0 base rb sv ss z s0 s1 b x w) (h0 : Rs w0 rb s0) (hr : w0.ownsRow base 70 1 sv ss.length (smCells ss)) (hb : b 6 = false) : w.ownsRow base 70 1 sv ss.length (smCells ss) :=
  ownsRow_same hr (fun k hk => (h.one hb).block k (World.ownsRow.lt hr k hk).2 (fun e => h0.not_row hr (by rw [hk]; exact e.symm)))
theorem J7.app (h : J7 w0 base rb sv ss z s0 s1 b x w) (h0 : Rs w0 rb s0) (hr : w0.ownsRow base 70 1 sv ss.length (smCells ss)) (hb : b 6 = false) (h5 : b 5 = true) (h1 : b 1 = true) {v' : Value} {w' : World}
    (ho : w'.ownsRow base 70 1 v' (ss.length + 1) (smCells ss ++ [.int .u32 z])) (hg : w.grownBy w' sv.ownBlock) : J7 w0 base rb sv ss z s0 s1 (setB b 6) (setX x 6 v') w' := by
  have e1 := setB_ne (b := b) (show (1 : Nat) ≠ 6 by decide)
  have e3 := setB_ne (b := b) (show (3 : Nat) ≠ 6 by decide)
  have e4 := setB_ne (b := b) (show (4 : Nat) ≠ 6 by decide)
  have e5 := setB_ne (b := b) (show (5 : Nat) ≠ 6 by decide)
  refine ⟨?_, ?_, ?_, ?_, ?_, ?_, ?_⟩
  · rw [e4, e3]; exact h.o4
  · rw [e4, e5]; exact h.o5
  · rw [e5, e1]; exact fun _ => ⟨h5, h1⟩
  · rw [e3]; exact h.rd.kept hg (h.rd.not_row (h.row h0 hr hb))
  · rw [setB_same]; exact fun e => by cases e
  · rw [setB_same]; exact fun e => by cases e
  · intro _
    rw [setX_same, smCells_append]
    exact ⟨FrL.of_two (h.one hb) hg, ho⟩
theorem J7.ls (h : J7 w0 base rb sv ss z s0 s1 b x w) (h0 : Rs w0 rb s0) {i t n : Int} (hl : LsB w0 lb i t n sv) (hb : b 1 = false) : LsB w lb i t n sv :=
  ((h.one (h.off6 (.inl rfl) hb)).block lb hl.lt (fun e => h0.not_ls hl (Option.some.inj e))).trans hl
end
/-- What has run of the reading of a list's head. -/
def F4 (cb rb : Nat) (r : Rc) (n : Int) : Nat → Value → Prop
  | 0, v => v = .pointer (some ⟨cb, 1, none⟩)
  | 1, v => v = .int .i64 r.index
  | 2, v => v = .pointer (some ⟨cb, 2, none⟩)
  | 3, v => v = .int .i64 r.term
  | 4, v => v = .pointer (some ⟨rb, 0, none⟩)
  | 5, v => v = .int .i64 n
  | 6, v => v = .agg #[.int .i64 r.index, .int .i64 r.term, .int .i64 n, .slice none 0 0]
  | _, _ => True
structure J4 (w0 : World) (rb : Nat) (s0 s1 : RS) (b : Nat → Bool) (x : Nat → Value) (w : World) : Prop where
  rd : Rs w rb (if b 5 = true then s1 else s0)
  one : w0.grownBy w (some rb)
  new : b 7 = true → ∃ g, x 7 = .pointer (some ⟨g, 0, none⟩) ∧ w0.heap.size ≤ g ∧ LsB w g 0 0 0 (.slice none 0 0)
section
variable {w0 w : World} {rb : Nat} {s0 s1 : RS} {b : Nat → Bool} {x : Nat → Value}
theorem J4.start (h : Rs w0 rb s0) (x : Nat → Value) : J4 w0 rb s0 s1 (fun _ => false) x w0 := ⟨h, only_refl w0 _, fun h => by cases h⟩
theorem J4.pure (h : J4 w0 rb s0 s1 b x w) {k : Nat} {v : Value} (hk : k ≠ 5 ∧ k ≠ 7) : J4 w0 rb s0 s1 (setB b k) (setX x k v) w := by
  refine ⟨?_, h.one, ?_⟩
  · rw [setB_ne (Ne.symm hk.1)]; exact h.rd
  · rw [setB_ne (Ne.symm hk.2), setX_ne (Ne.symm hk.2)]; exact h.new
theorem J4.num (h : J4 w0 rb s0 s1 b x w) {v : Value} {w' : World} (hl : rb < w0.heap.size) (hr : Rs w' rb s1) (hg : w.grownBy w' (some rb)) : J4 w0 rb s0 s1 (setB b 5) (setX x 5 v) w' := by
  refine ⟨?_, only_trans h.one hg, ?_⟩
  · rw [setB_same]; exact hr
  · rw [setB_ne (by decide), setX_ne (by decide)]
    intro h7
    obtain ⟨g, h1, h2, h3⟩ := h.new h7
    exact ⟨g, h1, h2, (hg.block g h3.lt (fun e => by have := Option.some.inj e; omega)).trans h3⟩
theorem J4.made (h : J4 w0 rb s0 s1 b x w) : J4 w0 rb s0 s1 (setB b 7) (setX x 7 (.pointer (some ⟨w.heap.size, 0, none⟩))) (w.alloc (.cells #[.int .i64 0, .int .i64 0, .int .i64 0, .slice none 0 0] 67)) := by
  refine ⟨?_, only_alloc h.one _, ?_⟩
  · rw [setB_ne (by decide)]; exact h.rd.below ((Below.refl _ _).alloc (Nat.le_refl _) _)
  · intro _
    exact ⟨w.heap.size, setX_same _ _ _, h.one.size, LsB.new w 0 0 0 (.slice none 0 0)⟩
end
theorem run_storeLs (W : World) (b : Nat) (i t n i0 t0 n0 : Int) (sv s0 : Value) (h : LsB W b i0 t0 n0 s0) (hs : ∃ a m c, sv = .slice a m c) : (Instr.storeAt 67 (.pointer (some ⟨b, 0, none⟩)) (.agg #[.int .i64 i, .int .i64 t, .int .i64 n, sv])).run Tryd.prog W = .ok () (setLs W b i t n sv) := by
  obtain ⟨⟨c0, c1, c2, c3⟩, f0, f1, f2, f3⟩ := h.cells
  obtain ⟨a, m, c, rfl⟩ := hs
  unfold setLs
  go_simp
section
variable {Q : Exit → Act → World → Prop} {l : List Oper}
theorem gstep_mkL {i : Nat} {o : Oper} {a : Act} {w : World} {K : Act → World → Prop} (ho : l[i]? = some o) (hw : WantedIs l a o true) (s0 s1 s2 : Operand) (hop : o.op = .build 67 #[(0, s0), (1, s1), (2, s2)]) (x y z : Int) (h0 : a.eval s0 = .int .i64 x) (h1 : a.eval s1 = .int .i64 y) (h2 : a.eval s2 = .int .i64 z)
    (h : K (a.put o.dst (.agg #[.int .i64 x, .int .i64 y, .int .i64 z, .slice none 0 0])) w) : Step Tryd.prog l Q i K a w :=
  gstep_value ho hw _ w (by simp only [execOp, hop, List.map_toArray, List.map_cons, List.map_nil, h0, h1, h2]; go_simp) h
theorem gstep_newL {i : Nat} {o : Oper} {a : Act} {w : World} {K : Act → World → Prop} (ho : l[i]? = some o) (hw : WantedIs l a o true) (hop : o.op = .alloc 67)
    (h : K (a.put o.dst (.pointer (some ⟨w.heap.size, 0, none⟩))) (w.alloc (.cells #[.int .i64 0, .int .i64 0, .int .i64 0, .slice none 0 0] 67))) : Step Tryd.prog l Q i K a w :=
  gstep_value ho hw _ _ (by simp only [execOp, hop]; go_simp) h
end
theorem cretlo (A : Act) (W : World) (b : Nat) (l : Ls) (sv : Value) (Q : Ending → World → Prop) (h2 : A.tmps.getD 2 undef = .pointer (some ⟨b, 0, none⟩)) (hd : A.defers = []) (hr : LsB W b l.index l.term l.bytes sv)
    (hq : Q (.returned (lsV l sv)) W) : bodyPost Tryd.prog Tryd.f111 Q Exit.ret A W := by
  obtain ⟨⟨c0, c1, c2, c3⟩, _⟩ := hr.cells
  have e2 : A.tmps[2]?.getD undef = .pointer (some ⟨b, 0, none⟩) := by simpa using h2
  exact bodyPost_ret (v := lsV l sv) (by simp [results, Tryd.results111, go_sem, lsV, e2, c0, c1, c2, c3]) hd hq
end
section
open Go Go.RowKit Go.Proofs.Tryd
set_option linter.unusedVariables false
set_option maxRecDepth 100000

/-- What a round of listOf's loop starts from. -/
def LoR (m : Nat) (w : World) (lb rb : Nat) (i t n : Int) (st : RS) (k : Nat) (wr : World) : Prop :=
  ∃ sv, LsB wr lb i t n sv ∧ Rs wr rb (rdSm k st).2 ∧ wr.ownsRow m 70 1 sv k (smCells (rdSm k st).1) ∧ LsB wr (m + 1) 0 0 0 (.slice none 0 0) ∧ Below m w wr
set_option maxHeartbeats 4000000 in
theorem clistof_any (r : Rc) (hd : r.data.size ≤ 140737488355328) (w : World) :
    Calls Tryd.prog 111 #[recV r] w fun e w' => ∃ sv, e = .returned (lsV (listF r) sv) ∧ w'.ownsRow w.heap.size 70 1 sv (listF r).sums.length (smCells (listF r).sums) ∧ Below w.heap.size w w' := by
  obtain ⟨kd, ix, tm, d⟩ := r
  simp only at hd
  have R1 := (RecB.new w ⟨kd, ix, tm, d⟩).below ((Below.refl _ (w.alloc (.cells #[.int .i64 kd, .int .i64 ix, .int .i64 tm, .string d] 58))).alloc (Nat.le_refl _) (.cells #[.int .i64 0, .int .i64 0, .int .i64 0, .slice none 0 0] 67))
  have L1 := LsB.new (w.alloc (.cells #[.int .i64 kd, .int .i64 ix, .int .i64 tm, .string d] 58)) 0 0 0 (.slice none 0 0)
  have B1 := ((Below.refl w.heap.size w).alloc (Nat.le_refl _) (.cells #[.int .i64 kd, .int .i64 ix, .int .i64 tm, .string d] 58)).alloc (by simp) (.cells #[.int .i64 0, .int .i64 0, .int .i64 0, .slice none 0 0] 67)
  rw [World.size_alloc] at L1
  unfold recV
  simp only
  go_enter Tryd.func111, Tryd.ntmps111
  go_upto_region 1 with fail
  generalize (w.alloc (.cells #[.int .i64 kd, .int .i64 ix, .int .i64 tm, .string d] 58)).alloc (.cells #[.int .i64 0, .int .i64 0, .int .i64 0, .slice none 0 0] 67) = w1 at L1 R1 B1 ⊢
  obtain ⟨⟨c0, c1, c2, c3⟩, _⟩ := R1.cells
  simp only at c0 c1 c2 c3
  obtain ⟨⟨l0, l1, l2, l3⟩, q0, q1, q2, q3⟩ := L1.cells
  have HR1 := Lib.hid R1
  have HL1 := Lib.hid L1
  have HB1 := Lib.hid B1
  clear R1 L1 B1
  by_cases hk : kd = 4
  case neg =>
    have d0 : (kd == 4) = false := by simp [hk]
    have HV : Hid (listF ⟨kd, ix, tm, d⟩ = ls0) := by show _ = _; unfold listF; exact if_neg (fun h => hk h.1)
    go_wp2_with fail
    refine cretlo _ (setLs w1 (w.heap.size + 1) 0 0 0 (.slice none 0 0)) (w.heap.size + 1) ls0 (.slice none 0 0) _ rfl rfl (HL1.out.setAll 0 0 0 (.slice none 0 0)) ?_
    rw [HV.out]
    exact ⟨_, rfl, World.ownsRow_nil _ _ _ _, below_setLs HB1.out (Nat.le_succ _) _ _ _ _⟩
  subst hk
  go_upto_region 3 with fail
  go_wp2_with fail
  refine (pread_any d w1).mono ?_
  rintro e w2 ⟨rfl, hrd, hb2, hz2⟩
  clear c0 c1 c2 c3 l0 l1 l2 l3 q0 q1 q2 q3
  have HMB : Hid (w.heap.size + 1 < w1.heap.size) := HL1.out.lt
  obtain ⟨n1, hn1⟩ : ∃ n, n = (loA ⟨4, ix, tm, d⟩).1 := ⟨_, rfl⟩
  obtain ⟨s1, hs1⟩ : ∃ s, s = (loA ⟨4, ix, tm, d⟩).2 := ⟨_, rfl⟩
  obtain ⟨rb, hrb⟩ : ∃ b, b = w1.heap.size := ⟨_, rfl⟩
  have HS0 : Hid (Rs w2.drew rb (some d.data.toList)) := by show Rs w2.drew rb (some d.data.toList); rw [hrb]; exact ⟨hrd, by simpa using hd⟩
  have HNU := Lib.hid (fun (W : World) (h : Rs W rb (some d.data.toList)) => show Calls Tryd.prog 106 #[.pointer (some ⟨rb, 0, none⟩), .int .i64 281474976710655] W fun e w' => e = .returned (.int .i64 n1) ∧ Rs w' rb s1 ∧ W.grownBy w' (some rb) from by
    rw [hn1, hs1]
    exact num_rs rb 281474976710655 (some d.data.toList) W h)
  have HRB := Lib.hid (fun (W : World) (h : w2.drew.grownBy W (some rb)) => show RecB W w.heap.size ⟨4, ix, tm, d⟩ from RecB.kept (w := w2.drew) (HR1.out.below hb2.drew) h (fun e => by have := Option.some.inj e; have := HMB.out; omega))
  have HVB := Lib.hid (fun (W : World) (h : w2.drew.grownBy W (some rb)) => show LsB W (w.heap.size + 1) 0 0 0 (.slice none 0 0) from (h.block _ (Nat.lt_of_lt_of_le HMB.out hb2.size) (fun e => by have := Option.some.inj e; have := HMB.out; omega)).trans (HL1.out.below hb2.drew))
  have HBW := Lib.hid (fun (W : World) (h : w2.drew.grownBy W (some rb)) => show Below w.heap.size w W from (HB1.out.trans (hb2.mono HB1.out.size)).grown (w' := W) ⟨h.os, h.tape, h.output, h.size, h.block⟩ (Nat.le_trans HB1.out.size hb2.size) (fun j hj => by have := Option.some.inj hj; have := HMB.out; omega))
  have HZ2 := Lib.hid hz2
  rw [← hrb]
  have HRB0 := Lib.hid hrb
  clear hrd hb2 hz2 hrb
  go_upto_region 4 with fail
  refine wp_region_inv_last 8 (IFJ (F4 w.heap.size rb ⟨4, ix, tm, d⟩ n1) (J4 w2.drew rb (some d.data.toList) s1)) (by kernel_rfl) (by kernel_rfl) (by kernel_rfl) (by kernel_rfl) (by kernel_rfl) ?_ ?_ ?_
  · intro x
    exact ⟨fun j hj => (by cases hj), J4.start HS0.out x⟩
  · intro k o hk ho b x W hI hbi hW
    match k, ho with
      | 0, ho =>
        obtain rfl := Option.some.inj ho
        exact gstep_field rfl (wanted0 rfl) _ _ _ rfl _ (eval_of 1 _ (by kernel_rfl) rfl) _ (run_recf1 W _) ⟨_, rfl, IFJ.step hI rfl (hI.2.pure (by decide))⟩
      | 1, ho =>
        obtain rfl := Option.some.inj ho
        exact gstep_load rfl (wanted0 rfl) _ _ rfl _ (eval_at 12 0 _ (by kernel_rfl) (show 12 < 42 by decide) (hI.1 0 (hW 0 (by kernel_rfl)))) _ (run_loadI W _ _ (HRB.out W hI.2.one).cells.1.2.1) ⟨_, rfl, IFJ.step hI rfl (hI.2.pure (by decide))⟩
      | 2, ho =>
        obtain rfl := Option.some.inj ho
        exact gstep_field rfl (wanted0 rfl) _ _ _ rfl _ (eval_of 1 _ (by kernel_rfl) rfl) _ (run_recf2 W _) ⟨_, rfl, IFJ.step hI rfl (hI.2.pure (by decide))⟩
      | 3, ho =>
        obtain rfl := Option.some.inj ho
        exact gstep_load rfl (wanted0 rfl) _ _ rfl _ (eval_at 14 2 _ (by kernel_rfl) (show 14 < 42 by decide) (hI.1 2 (hW 2 (by kernel_rfl)))) _ (run_loadI W _ _ (HRB.out W hI.2.one).cells.1.2.2.1) ⟨_, rfl, IFJ.step hI rfl (hI.2.pure (by decide))⟩
      | 4, ho =>
        obtain rfl := Option.some.inj ho
        exact gstep_move rfl (wanted0 rfl) _ rfl _ (eval_of 3 _ (by kernel_rfl) rfl) ⟨_, rfl, IFJ.step hI rfl (hI.2.pure (by decide))⟩
      | 5, ho =>
        obtain rfl := Option.some.inj ho
        have hrd := hI.2.rd
        rw [hbi] at hrd
        refine gstep_call2 rfl (wanted0 rfl) _ _ _ _ rfl _ _ (eval_at 16 4 _ (by kernel_rfl) (show 16 < 42 by decide) (hI.1 4 (hW 4 (by kernel_rfl)))) rfl (call_rnum W _ _) ?_
        refine (HNU.out W hrd).mono ?_
        rintro e w3 ⟨rfl, h3, hg3⟩
        exact ⟨_, rfl, _, rfl, IFJ.step hI rfl (hI.2.num HS0.out.lt h3 hg3)⟩
      | 6, ho =>
        obtain rfl := Option.some.inj ho
        exact gstep_mkL rfl (wanted0 rfl) _ _ _ rfl _ _ _ (eval_at 13 1 _ (by kernel_rfl) (show 13 < 42 by decide) (hI.1 1 (hW 1 (by kernel_rfl)))) (eval_at 15 3 _ (by kernel_rfl) (show 15 < 42 by decide) (hI.1 3 (hW 3 (by kernel_rfl)))) (eval_at 17 5 _ (by kernel_rfl) (show 17 < 42 by decide) (hI.1 5 (hW 5 (by kernel_rfl)))) ⟨_, rfl, IFJ.step hI rfl (hI.2.pure (by decide))⟩
      | 7, ho =>
        obtain rfl := Option.some.inj ho
        exact gstep_newL rfl (wanted0 rfl) rfl ⟨_, rfl, IFJ.step hI trivial hI.2.made⟩
      | n + 8, ho => omega
  · intro o ho b x W hI hA
    obtain rfl := Option.some.inj ho
    obtain ⟨lb, hx7, hlo, hlb⟩ := hI.2.new (hA 7 (by decide))
    have hrd := hI.2.rd
    rw [hA 5 (by decide)] at hrd
    have h6 : x 6 = .agg #[.int .i64 ix, .int .i64 tm, .int .i64 n1, .slice none 0 0] := hI.1 6 (hA 6 (by decide))
    refine gstep_store rfl (wanted0 rfl) _ _ _ rfl _ _ (eval_at 4 7 _ (by kernel_rfl) (show 4 < 42 by decide) hx7) (eval_at 18 6 _ (by kernel_rfl) (show 18 < 42 by decide) h6) _ (run_storeLs W lb ix tm n1 0 0 0 (.slice none 0 0) _ hlb ⟨_, _, _, rfl⟩) ?_
    simp only [putAll, Act.put, List.setIfInBounds_toArray, List.set_cons_succ, List.set_cons_zero]
    have hx7' : x (0 + 1 + 1 + 1 + 1 + 1 + 1 + 1) = .pointer (some ⟨lb, 0, none⟩) := hx7
    rw [hx7']
    have hne := Rs.not_ls hrd hlb
    have L3 := hlb.setAll ix tm n1 (.slice none 0 0)
    have S3 : Rs (setLs W lb ix tm n1 (.slice none 0 0)) rb s1 := hrd.same (setLs_other (Ne.symm hne))
    have hsz2 : w2.drew.heap.size = w1.heap.size + 1 := HZ2.out
    have V3 : LsB (setLs W lb ix tm n1 (.slice none 0 0)) (w.heap.size + 1) 0 0 0 (.slice none 0 0) := (setLs_other (by have := HMB.out; omega)).trans (HVB.out W hI.2.one)
    have B3 := below_setLs (HBW.out W hI.2.one) (show w.heap.size ≤ lb by have := HMB.out; omega) ix tm n1 (.slice none 0 0)
    have HLO : Hid (w.heap.size ≤ lb) := by show w.heap.size ≤ lb; have := HMB.out; omega
    have HRL : Hid (w.heap.size ≤ rb) := by show w.heap.size ≤ rb; have := HMB.out; have := HRB0.out; omega
    have HM1 : Hid (w.heap.size + 1 ≠ lb ∧ w.heap.size + 1 ≠ rb) := by show _ ∧ _; have := HMB.out; have := HRB0.out; constructor <;> omega
    generalize setLs W lb ix tm n1 (.slice none 0 0) = w3 at L3 S3 V3 B3 ⊢
    obtain ⟨n2, hn2⟩ : ∃ n, n = (loB ⟨4, ix, tm, d⟩).1 := ⟨_, rfl⟩
    obtain ⟨s2, hs2⟩ : ∃ s, s = (loB ⟨4, ix, tm, d⟩).2 := ⟨_, rfl⟩
    have hn64 : 0 ≤ n2 ∧ n2 ≤ 64 := by rw [hn2]; exact numF_most 6 64 (by decide) _
    obtain ⟨N, rfl⟩ : ∃ N : Nat, n2 = (N : Int) := ⟨n2.toNat, by omega⟩
    have hN : N ≤ 64 := by omega
    have HNB := Lib.hid (fun (W : World) (h : Rs W rb s1) => show Calls Tryd.prog 106 #[.pointer (some ⟨rb, 0, none⟩), .int .i64 64] W fun e w' => e = .returned (.int .i64 (N : Int)) ∧ Rs w' rb s2 ∧ W.grownBy w' (some rb) from by
      rw [hn2, hs2]
      have h' := h
      rw [hs1] at h'
      exact num_rs rb 64 (loA ⟨4, ix, tm, d⟩).2 W h')
    have HN1 : Hid (listF ⟨4, ix, tm, d⟩ = if doneF (rdSm N s2).2 = 0 ∧ validB ix tm n1 (rdSm N s2).1.length = true then ⟨ix, tm, n1, (rdSm N s2).1⟩ else ls0) := by
      show _ = _
      have e1 : loC ⟨4, ix, tm, d⟩ = rdSm N s2 := by unfold loC; rw [← hn2, ← hs2]; rfl
      unfold listF
      rw [e1, ← hn1]
      simp
    have HN1B : Hid (0 ≤ n1 ∧ n1 ≤ 281474976710655) := by show _ ∧ _; rw [hn1]; exact numF_most 6 281474976710655 (by decide) _
    have HSS := Lib.hid S3
    have HLL := Lib.hid L3
    have HVV := Lib.hid V3
    have HBB := Lib.hid B3
    have HNN := Lib.hid hne
    clear hI hA h6 hx7 hx7' hlo hlb hrd hne hsz2 HRB HVB HBW HNU HS0 HZ2 HMB HR1 HL1 HB1 hn1 hs1 hn2 hs2 hn64 L3 S3 V3 B3
    go_wp2_with fail
    refine (HNB.out w3 HSS.out).mono ?_
    rintro e w4 ⟨rfl, S4, hg4⟩
    have RR : LoR w.heap.size w lb rb ix tm n1 s2 0 w4 := by
      refine ⟨.slice none 0 0, (hg4.block lb HLL.out.lt (fun e => HNN.out (Option.some.inj e))).trans HLL.out, S4, World.ownsRow_nil _ _ _ _, (hg4.block _ HVV.out.lt (fun e => HM1.out.2 (Option.some.inj e))).trans HVV.out, ?_⟩
      exact HBB.out.grown hg4 HBB.out.size (fun j hj => by have := Option.some.inj hj; have := HRL.out; omega)
    clear S4 hg4 HSS HLL HVV HBB HNB
    go_wp2_with fail
    go_loopw [21] (fun z wr => ∃ k : Nat, k ≤ N ∧ z = .int .i64 (k : Int) ∧ LoR w.heap.size w lb rb ix tm n1 s2 k wr) (fun z _ => N - (intOf z).toNat)
    case atStart => exact ⟨0, Nat.zero_le _, rfl, RR⟩
    case round =>
      obtain ⟨k, hk, rfl, sv, Lk, Sk, Ok, Vk, Bk⟩ := hrel
      clear RR
      by_cases hlt : k < N
      · have hlt' : (k : Int) < (N : Int) := by omega
        have hk0 : (0 : Int) ≤ (k : Int) := by omega
        go_upto_region 7 with fail
        obtain ⟨ss, hss⟩ : ∃ l, l = (rdSm k s2).1 := ⟨_, rfl⟩
        obtain ⟨st, hst⟩ : ∃ s, s = (rdSm k s2).2 := ⟨_, rfl⟩
        obtain ⟨z, hz⟩ : ∃ n, n = (numF 6 4294967295 st).1 := ⟨_, rfl⟩
        obtain ⟨st', hst'⟩ : ∃ s, s = (numF 6 4294967295 st).2 := ⟨_, rfl⟩
        have hkl : ss.length = k := by rw [hss]; exact rdSm_length k s2
        have HSC : Hid (rdSm (k + 1) s2 = (ss ++ [z], st')) := by show _ = _; rw [hz, hst', hss, hst]; rfl
        have HZB : Hid (0 ≤ z ∧ z ≤ 4294967295) := by show _ ∧ _; rw [hz]; exact numF_most 6 4294967295 (by decide) _
        have HNC := Lib.hid (fun (W : World) (h : Rs W rb st) => show Calls Tryd.prog 106 #[.pointer (some ⟨rb, 0, none⟩), .int .i64 4294967295] W fun e w' => e = .returned (.int .i64 z) ∧ Rs w' rb st' ∧ W.grownBy w' (some rb) from by
          rw [hz, hst']
          exact num_rs rb 4294967295 st W h)
        rw [← hss, ← hkl] at Ok
        rw [← hst] at Sk
        have HR0 : Hid (Rs wr.drew rb st) := Lib.hid (Sk.same rfl)
        have HO0 : Hid (wr.drew.ownsRow w.heap.size 70 1 sv ss.length (smCells ss)) := Ok
        have HL0 : Hid (LsB wr.drew lb ix tm n1 sv) := Lk
        have HV0 : Hid (LsB wr.drew (w.heap.size + 1) 0 0 0 (.slice none 0 0)) := Vk
        have HB0 : Hid (Below w.heap.size w wr.drew) := Lib.hid Bk.drew
        have HVR : Hid (∀ q, sv.ownBlock = some q → w.heap.size ≤ q) := Lib.hid (fun q hq => (World.ownsRow.lt Ok q hq).1)
        have hsv : ∃ a m c, sv = .slice a m c := by obtain ⟨a, c, h⟩ := slice_of Ok; exact ⟨_, _, _, h⟩
        have HSV := Lib.hid hsv
        have HKL := Lib.hid hkl
        have HNK : Hid (ss.length ≤ 64) := by show ss.length ≤ 64; omega
        obtain ⟨i0, hi0, hz0, hz1, hz2⟩ := info_parts info_sum
        clear hss hst hz hst' hkl Lk Sk Ok Vk Bk hsv
        refine wp_region_inv_last 8 (IFJ (F7 lb rb sv z) (J7 wr.drew w.heap.size rb sv ss z st st')) (by kernel_rfl) (by kernel_rfl) (by kernel_rfl) (by kernel_rfl) (by kernel_rfl) ?_ ?_ ?_
        · intro x
          exact ⟨fun j hj => (by cases hj), J7.start HR0.out x⟩
        · intro j o hj ho b x W hI hbi hW
          match j, ho with
            | 0, ho =>
              obtain rfl := Option.some.inj ho
              exact gstep_field rfl (wanted0 rfl) _ _ _ rfl _ (eval_of 4 _ (by kernel_rfl) rfl) _ (run_lsf3 W _) ⟨_, rfl, IFJ.step hI rfl (hI.2.pure (by decide))⟩
            | 1, ho =>
              obtain rfl := Option.some.inj ho
              obtain ⟨sa, sm, sc, hsv⟩ := HSV.out
              have hld := (hI.2.ls HR0.out HL0.out hbi).cells.1.2.2.2
              have hrun : (Instr.loadAt 65 (.pointer (some ⟨lb, 3, none⟩))).run Tryd.prog W = .ok sv W := by
                rw [hsv] at hld ⊢
                exact run_loadSm W _ _ _ _ hld
              exact gstep_load rfl (wanted0 rfl) _ _ rfl _ (eval_at 23 0 _ (by kernel_rfl) (show 23 < 42 by decide) (hI.1 0 (hW 0 (by kernel_rfl)))) _ hrun ⟨_, rfl, IFJ.step hI rfl (hI.2.pure (by decide))⟩
            | 2, ho =>
              obtain rfl := Option.some.inj ho
              exact gstep_move rfl (wanted0 rfl) _ rfl _ (eval_of 3 _ (by kernel_rfl) rfl) ⟨_, rfl, IFJ.step hI rfl (hI.2.pure (by decide))⟩
            | 3, ho =>
              obtain rfl := Option.some.inj ho
              have hrd := hI.2.rd
              rw [hbi] at hrd
              refine gstep_call2 rfl (wanted0 rfl) _ _ _ _ rfl _ _ (eval_at 25 2 _ (by kernel_rfl) (show 25 < 42 by decide) (hI.1 2 (hW 2 (by kernel_rfl)))) rfl (call_rnum W _ _) ?_
              refine (HNC.out W hrd).mono ?_
              rintro e w5 ⟨rfl, h5, hg5⟩
              exact ⟨_, rfl, _, rfl, IFJ.step hI rfl (hI.2.num hbi h5 hg5)⟩
            | 4, ho =>
              obtain rfl := Option.some.inj ho
              have h3 := hW 3 (by kernel_rfl)
              exact gstep_u32 rfl (wanted0 rfl) _ rfl z (eval_at 26 3 _ (by kernel_rfl) (show 26 < 42 by decide) (hI.1 3 h3)) HZB.out ⟨_, rfl, IFJ.step hI rfl (hI.2.conv h3)⟩
            | 5, ho =>
              obtain rfl := Option.some.inj ho
              have h4 := hW 4 (by kernel_rfl)
              exact gstep_rowU rfl (wanted0 rfl) _ rfl z (eval_at 27 4 _ (by kernel_rfl) (show 27 < 42 by decide) (hI.1 4 h4)) ⟨_, rfl, IFJ.step hI trivial (hI.2.made hbi h4)⟩
            | 6, ho =>
              obtain rfl := Option.some.inj ho
              have h1 := hW 1 (by kernel_rfl)
              have h5 := hW 5 (by kernel_rfl)
              obtain ⟨g, hg, hgx⟩ := hI.2.new hbi h5
              exact gstep_append rfl (wanted0 rfl) _ _ _ rfl w.heap.size 70 i0 (.int .u32 0) 1 4 und_sums hi0 hz0 hz1 hz2 rfl (by decide) sv ss.length (smCells ss) (eval_at 24 1 _ (by kernel_rfl) (show 24 < 42 by decide) (hI.1 1 h1)) (hI.2.row HR0.out HO0.out hbi)
                ⟨g, 0, none⟩ 1 1 [.int .u32 z] (eval_at 28 5 _ (by kernel_rfl) (show 28 < 42 by decide) hg) rfl (World.news_of_block (cs := #[.int .u32 z]) (t := 70) (fr := (0, 0)) hgx) (by intro u hu; rw [List.mem_singleton.1 hu]; rfl)
                (by have := HNK.out; unfold maxLen; omega) (by have := HNK.out; omega) (Nat.le_trans HB0.out.size (hI.2.one hbi).size) (fun v' w' ho' hg' => ⟨_, rfl, IFJ.step hI trivial (hI.2.app HR0.out HO0.out hbi h5 h1 ho' hg')⟩)
            | 7, ho =>
              obtain rfl := Option.some.inj ho
              exact gstep_field rfl (wanted0 rfl) _ _ _ rfl _ (eval_of 4 _ (by kernel_rfl) rfl) _ (run_lsf3 W _) ⟨_, rfl, IFJ.step hI rfl (hI.2.pure (by decide))⟩
            | n + 8, ho => omega
        · intro o ho b x W hI hA
          obtain rfl := Option.some.inj ho
          obtain ⟨hfr, hown⟩ := hI.2.done (hA 6 (by decide))
          have hrd := hI.2.rd
          rw [hA 3 (by decide)] at hrd
          have h7 : x 7 = .pointer (some ⟨lb, 3, none⟩) := hI.1 7 (hA 7 (by decide))
          obtain ⟨na, nc, hn6⟩ := slice_of hown
          have L5 : LsB W lb ix tm n1 sv := (hfr.block lb HL0.out.lt HNN.out (HL0.out.not_row HO0.out)).trans HL0.out
          have V5 : LsB W (w.heap.size + 1) 0 0 0 (.slice none 0 0) := (hfr.block _ HV0.out.lt HM1.out.2 (HV0.out.not_row HO0.out)).trans HV0.out
          have B5 : Below w.heap.size w W := HB0.out.trans (hfr.below HRL.out HVR.out HB0.out.size)
          rw [hn6] at hown
          have L6 := L5.set (.slice na (ss.length + 1) nc)
          have V6 : LsB (W.setCell ⟨lb, 3, none⟩ (.slice na (ss.length + 1) nc)) (w.heap.size + 1) 0 0 0 (.slice none 0 0) := (block_setCell_other HM1.out.1).trans V5
          have S6 : Rs (W.setCell ⟨lb, 3, none⟩ (.slice na (ss.length + 1) nc)) rb st' := hrd.same (block_setCell_other (Ne.symm HNN.out))
          have hne8 := L5.not_row hown
          have O6 : (W.setCell ⟨lb, 3, none⟩ (.slice na (ss.length + 1) nc)).ownsRow w.heap.size 70 1 (.slice na (ss.length + 1) nc) (ss.length + 1) (smCells (ss ++ [z])) := ownsRow_same hown (fun j hj => block_setCell_other (fun e => hne8 (by rw [hj, e])))
          have B6 := B5.setCell (p := ⟨lb, 3, none⟩) HLO.out (.slice na (ss.length + 1) nc)
          refine gstep_store rfl (wanted0 rfl) _ _ _ rfl _ _ (eval_at 30 7 _ (by kernel_rfl) (show 30 < 42 by decide) h7) (eval_at 29 6 _ (by kernel_rfl) (show 29 < 42 by decide) hn6) _ (run_storeSm W _ _ _ _ _ L5.cells.1.2.2.2 L5.cells.2.2.2.2) ?_
          simp only [putAll, Act.put, List.setIfInBounds_toArray, List.set_cons_succ, List.set_cons_zero]
          have RR : LoR w.heap.size w lb rb ix tm n1 s2 (k + 1) (W.setCell ⟨lb, 3, none⟩ (.slice na (ss.length + 1) nc)) := by
            have hkl := HKL.out
            subst hkl
            refine ⟨_, L6, ?_, ?_, V6, B6⟩
            · rw [HSC.out]; exact S6
            · rw [HSC.out]; exact O6
          generalize W.setCell ⟨lb, 3, none⟩ (.slice na (ss.length + 1) nc) = w6 at RR ⊢
          have e7 : wrap64 ((k : Int) + 1) = (k : Int) + 1 := IntWalk.wrap64_in _ (by omega)
          clear hI hA hfr hown hrd h7 hn6 L5 V5 B5 L6 V6 S6 hne8 O6 B6 HSC HZB HNC HR0 HO0 HL0 HV0 HB0 HVR HSV HKL HNK
          go_wp2_with fail
          go_roundw
          case rel => exact ⟨k + 1, by omega, by go_num, RR⟩
          case measure => simp [intOf]; omega
      · obtain rfl : k = N := by omega
        have hlen := rdSm_length k s2
        obtain ⟨sa, sc, rfl⟩ := slice_of Ok
        obtain ⟨⟨l0, l1, l2, l3⟩, _⟩ := Lk.cells
        obtain ⟨⟨v0, v1, v2, v3⟩, p0, p1, p2, p3⟩ := Vk.cells
        have HOK := Lib.hid Ok
        have HVK := Lib.hid Vk
        have HBK := Lib.hid Bk
        have HSK := Lib.hid Sk
        have HLK := Lib.hid Lk
        have HLN := Lib.hid hlen
        clear hlt Lk Sk Ok Vk Bk hlen
        have fin0 : listF ⟨4, ix, tm, d⟩ = ls0 → ∃ sv, lsV ls0 (.slice none 0 0) = lsV (listF ⟨4, ix, tm, d⟩) sv ∧ (setLs wr (w.heap.size + 1) 0 0 0 (.slice none 0 0)).ownsRow w.heap.size 70 1 sv (listF ⟨4, ix, tm, d⟩).sums.length (smCells (listF ⟨4, ix, tm, d⟩).sums) := fun e => by
          rw [e]; exact ⟨_, rfl, World.ownsRow_nil _ _ _ _⟩
        have HF0 := Lib.hid fin0
        clear fin0
        by_cases hdn : doneF (rdSm k s2).2 = 0
        case neg =>
          have HV : Hid (listF ⟨4, ix, tm, d⟩ = ls0) := by show _ = _; rw [HN1.out]; exact if_neg (fun h => hdn h.1)
          have hdn' : (doneF (rdSm k s2).2 == 0) = false := by simp [hdn]
          go_wp2_with (go_at_call 108; refine (done_rs rb _ wr HSK.out).mono ?_; rintro e w5 ⟨rfl, rfl⟩)
          refine cretlo _ (setLs wr (w.heap.size + 1) 0 0 0 (.slice none 0 0)) (w.heap.size + 1) ls0 (.slice none 0 0) _ rfl rfl (HVK.out.setAll 0 0 0 (.slice none 0 0)) ?_
          obtain ⟨sv, e1, e2⟩ := HF0.out HV.out
          exact ⟨sv, by rw [e1], e2, below_setLs HBK.out (Nat.le_succ _) _ _ _ _⟩
        have hdn' : (doneF (rdSm k s2).2 != 0) = false := by simp [hdn]
        have HVA := Lib.hid (fun (W : World) => cvalid_any ix tm n1 k sa sc (by have := HN1B.out; omega) (by omega) W)
        by_cases hva : validB ix tm n1 k = true
        · have HV : Hid (listF ⟨4, ix, tm, d⟩ = ⟨ix, tm, n1, (rdSm k s2).1⟩) := by show _ = _; rw [HN1.out, HLN.out]; exact if_pos ⟨hdn, hva⟩
          go_wp2_with (first
            | (go_at_call 108; refine (done_rs rb _ wr HSK.out).mono ?_; rintro e w5 ⟨rfl, rfl⟩)
            | (go_at_call 75; refine (HVA.out wr).mono ?_; rintro e w5 ⟨rfl, hb5⟩; rw [hva]; obtain ⟨⟨m0, m1, m2, m3⟩, _⟩ := (HLK.out.below hb5).cells; obtain ⟨⟨y0, y1, y2, y3⟩, z0, z1, z2, z3⟩ := (HVK.out.below hb5).cells; have V5 := Lib.hid (HVK.out.below hb5); have B5 := Lib.hid (HBK.out.trans (hb5.mono HBK.out.size)); have O5 := Lib.hid (World.ownsRow_below HOK.out hb5); clear hb5))
          have F5 := V5.out.setAll ix tm n1 (.slice sa k sc)
          refine cretlo _ (setLs w5 (w.heap.size + 1) ix tm n1 (.slice sa k sc)) (w.heap.size + 1) ⟨ix, tm, n1, (rdSm k s2).1⟩ (.slice sa k sc) _ rfl rfl F5 ?_
          refine ⟨.slice sa k sc, by rw [HV.out], ?_, below_setLs B5.out (Nat.le_succ _) _ _ _ _⟩
          rw [HV.out]
          simp only
          rw [HLN.out]
          have hne := V5.out.not_row O5.out
          exact ownsRow_same O5.out (fun j hj => setLs_other (fun e => hne (by rw [hj, e])))
        · have hva' : validB ix tm n1 k = false := by simpa using hva
          have HV : Hid (listF ⟨4, ix, tm, d⟩ = ls0) := by show _ = _; rw [HN1.out, HLN.out]; exact if_neg (fun h => hva h.2)
          go_wp2_with (first
            | (go_at_call 108; refine (done_rs rb _ wr HSK.out).mono ?_; rintro e w5 ⟨rfl, rfl⟩)
            | (go_at_call 75; refine (HVA.out wr).mono ?_; rintro e w5 ⟨rfl, hb5⟩; rw [hva']; obtain ⟨⟨m0, m1, m2, m3⟩, _⟩ := (HLK.out.below hb5).cells; obtain ⟨⟨y0, y1, y2, y3⟩, z0, z1, z2, z3⟩ := (HVK.out.below hb5).cells; have V5 := Lib.hid (HVK.out.below hb5); have B5 := Lib.hid (HBK.out.trans (hb5.mono HBK.out.size)); have O5 := Lib.hid (World.ownsRow_below HOK.out hb5); clear hb5))
          refine cretlo _ (setLs w5 (w.heap.size + 1) 0 0 0 (.slice none 0 0)) (w.heap.size + 1) ls0 (.slice none 0 0) _ rfl rfl (V5.out.setAll 0 0 0 (.slice none 0 0)) ?_
          refine ⟨.slice none 0 0, by rw [HV.out], ?_, below_setLs B5.out (Nat.le_succ _) _ _ _ _⟩
          rw [HV.out]
          exact World.ownsRow_nil _ _ _ _
end
section
open Go Go.RowKit Go.Proofs.Tryd
set_option linter.unusedVariables false
set_option maxRecDepth 100000

/-- What readCopy answers, the block's number given. -/
noncomputable def copyF (D : Dv) (q : Int) : Ls × Int := if (D.sread q).2.2 = 0 then (listF (D.sread q).1, 0) else (ls0, (D.sread q).2.2)
theorem cretrc (A : Act) (W : World) (b : Nat) (l : Ls) (sv : Value) (x : Int) (Q : Ending → World → Prop) (h2 : A.tmps.getD 6 undef = .pointer (some ⟨b, 0, none⟩)) (h3 : A.tmps.getD 7 undef = .int .i64 x) (hd : A.defers = []) (hr : LsB W b l.index l.term l.bytes sv)
    (hq : Q (.returned (.tuple #[lsV l sv, .int .i64 x])) W) : bodyPost Tryd.prog Tryd.f74 Q Exit.ret A W := by
  obtain ⟨⟨c0, c1, c2, c3⟩, _⟩ := hr.cells
  have e2 : A.tmps[6]?.getD undef = .pointer (some ⟨b, 0, none⟩) := by simpa using h2
  have e3 : A.tmps[7]?.getD undef = .int .i64 x := by simpa using h3
  exact bodyPost_ret (v := .tuple #[lsV l sv, .int .i64 x]) (by simp [results, Tryd.results74, go_sem, lsV, e2, e3, c0, c1, c2, c3]) hd hq
set_option maxHeartbeats 8000000 in
theorem creadc_any {m : Nat} {E : Nat → Prop} {w : World} {b B : Nat} {base i t n area : Int} {sv : Value} {D : Dv} (ar k : Int) (h : CsB w b B base i t n sv area) (hd : DevW m E w B D) (hb : 0 ≤ base ∧ base ≤ 1000000000) (ha : 0 ≤ ar ∧ ar ≤ 1) (hk : 0 ≤ k ∧ k ≤ 2) (ht : Tabs w) (hw : D.writes ≤ 1073741824) :
    Calls Tryd.prog 74 #[.pointer (some ⟨b, 0, none⟩), .int .i64 ar, .int .i64 k] w fun e w' => ∃ sv', e = .returned (.tuple #[lsV (copyF D (base + ar * 66 + k)).1 sv', .int .i64 (copyF D (base + ar * 66 + k)).2]) ∧ w'.ownsRow w.heap.size 70 1 sv' (copyF D (base + ar * 66 + k)).1.sums.length (smCells (copyF D (base + ar * 66 + k)).1.sums) ∧ Below w.heap.size w w' := by
  obtain ⟨q, hq⟩ : ∃ q : Int, q = base + ar * 66 + k := ⟨_, rfl⟩
  rw [← hq]
  have V0 := LsB.new w 0 0 0 (.slice none 0 0)
  have B0 := (Below.refl w.heap.size w).alloc (Nat.le_refl _) (.cells #[.int .i64 0, .int .i64 0, .int .i64 0, .slice none 0 0] 67)
  have h1 := h.below B0
  have hd1 := hd.below B0
  have ht1 := ht.below B0
  clear h hd ht
  go_enter Tryd.func74, Tryd.ntmps74
  go_upto_region 1 with fail
  generalize (w.alloc (.cells #[.int .i64 0, .int .i64 0, .int .i64 0, .slice none 0 0] 67)) = w1 at V0 B0 h1 hd1 ht1 ⊢
  have HCB := Lib.hid (fun (W : World) (hW : Below w1.heap.size w1 W) => ccopyb_any (h1.below hW) ar k hb ha hk)
  rw [← hq] at HCB
  obtain ⟨r, st, x, hD⟩ : ∃ r st x, D.sread q = (r, st, x) := ⟨_, _, _, rfl⟩
  have HRD := Lib.hid (fun (W : World) (hW : Below w1.heap.size w1 W) => devw_sread q (ht1.below hW) hw (hd1.below hW))
  rw [hD] at HRD
  unfold sreadV recV at HRD
  simp only at HRD
  have HCF : Hid (copyF D q = if x = 0 then (listF r, 0) else (ls0, x)) := by show _ = _; unfold copyF; rw [hD]
  have hsz := c_sread_fits hd1.fits q
  rw [hD] at hsz
  have HSZ : Hid (r.data.size ≤ 512) := hsz
  clear hsz
  obtain ⟨⟨c0, c1, c2, c3, c4, c5, c6⟩, _⟩ := h1.cells
  have bd := (Below.refl w1.heap.size w1).drew
  have BA : Below w1.heap.size w1 (w1.alloc (.cells #[.int .i64 0, .int .i64 0, .int .i64 0, .string ⟨#[]⟩] 58)).drew := ((Below.refl _ w1).alloc (Nat.le_refl _) _).drew
  have NA : RecB (w1.alloc (.cells #[.int .i64 0, .int .i64 0, .int .i64 0, .string ⟨#[]⟩] 58)).drew w1.heap.size rc0 := RecB.new w1 rc0
  have HCW := Lib.hid (fun (W : World) (hW : Below w1.heap.size w1 W) => (h1.below hW).cells.1)
  have y1 : ¬ b = w1.heap.size := Nat.ne_of_lt h1.lt
  have y2 : ¬ w1.heap.size = b := Nat.ne_of_gt h1.lt
  have HV0 := Lib.hid V0
  have HB0 := Lib.hid B0
  clear hD h1 hd1 ht1 V0 B0 hq hb ha hk hw
  clear c1 c2 c3 c4 c5 c6
  go_cut [8, 9, 10] (CkRel w1 r st x)
  case first =>
    go_region_held3 (fun w' => w'.cell? ⟨b, 0, none⟩ = some (.pointer (some ⟨B, 0, none⟩))) (first | (with_reducible assumption) | go_keep)
      ((first
        | (go_at_call 110; refine (HCB.out _ ?hBa).mono ?_; (case hBa => first | (with_reducible exact BA) | (with_reducible exact bd)); rintro e w2 ⟨rfl, rfl⟩)
        | (go_at_call 26; refine (HRD.out _ ?hBb).mono ?_; (case hBb => first | (with_reducible exact BA) | (with_reducible exact bd)); rintro e w3 ⟨rfl, hb3⟩; (first
          | (have N3 : RecB w3 w1.heap.size rc0 := (by with_reducible exact NA.below hb3); have B3 : Below w1.heap.size w1 w3 := (by with_reducible exact BA.trans (hb3.mono BA.size)); obtain ⟨g0, _, _, _, _, _, g6⟩ := HCW.out w3 B3; obtain ⟨⟨n0, n1, n2, n3⟩, k0, k1, k2, k3⟩ := N3.cells; simp only [rc0] at n0 n1 n2 n3)
          | (have B3 : Below w1.heap.size w1 w3 := (by with_reducible exact bd.trans (hb3.mono bd.size)); obtain ⟨g0, _, _, _, _, _, g6⟩ := HCW.out w3 B3)))))
    all_goals (go_wp2_with fail; go_meet)
    all_goals first
      | (exact ⟨w1.heap.size, rfl, rfl, rfl, N3.set r, below_rec B3 (Nat.le_refl _) r⟩)
      | (exact ⟨w3.heap.size, rfl, rfl, rfl, RecB.new w3 r, B3.alloc B3.size _⟩)
  case rest =>
    obtain ⟨rb, rfl, rfl, rfl, RB, B4⟩ := hcut
    clear HCB HRD HCW bd BA NA y1 y2 c0
    have V4 := HV0.out.below B4
    have HV4 := Lib.hid V4
    have HB4 := Lib.hid (HB0.out.trans (B4.mono HB0.out.size))
    obtain ⟨⟨v0, v1, v2, v3⟩, f0, f1, f2, f3⟩ := V4.cells
    obtain ⟨⟨n0, n1, n2, n3⟩, _⟩ := RB.cells
    clear V4 B4 RB
    by_cases hx : x = 0
    · subst hx
      have HC2 : Hid (copyF D q = (listF r, 0)) := by show _ = _; rw [HCF.out, if_pos rfl]
      have HLO := Lib.hid (fun (W : World) => clistof_any r (by have := HSZ.out; omega) W)
      unfold recV at HLO
      go_wp2_with fail
      refine (HLO.out _).mono ?_
      rintro e w4 ⟨sv', rfl, O4, B5⟩
      obtain ⟨sa, sc, rfl⟩ := slice_of O4
      have V5 := HV4.out.below B5
      obtain ⟨⟨y0, y1, y2, y3⟩, z0, z1, z2, z3⟩ := V5.cells
      have HV5 := Lib.hid V5
      have HB5 := Lib.hid (HB4.out.trans (B5.mono HB4.out.size))
      have HO5 := Lib.hid O4
      have HSZ4 := Lib.hid HB4.out.size
      clear V5 B5 O4 HLO v0 v1 v2 v3 f0 f1 f2 f3 n0 n1 n2 n3
      unfold lsV
      go_wp2_with fail
      refine cretrc _ (setLs w4 w.heap.size (listF r).index (listF r).term (listF r).bytes (.slice sa (listF r).sums.length sc)) w.heap.size (listF r) (.slice sa (listF r).sums.length sc) 0 _ rfl rfl rfl (HV5.out.setAll _ _ _ _) ?_
      rw [HC2.out]
      refine ⟨_, rfl, ?_, below_setLs HB5.out (Nat.le_refl _) _ _ _ _⟩
      have hne := HV5.out.not_row HO5.out
      have hO := ownsRow_same (w' := setLs w4 w.heap.size (listF r).index (listF r).term (listF r).bytes (.slice sa (listF r).sums.length sc)) HO5.out (fun j hj => setLs_other (fun e => hne (by rw [hj, e])))
      exact ⟨hO.1, hO.2.imp id (fun ⟨g, cp, cur, e1, e2, e3⟩ => ⟨g, cp, cur, e1, Nat.le_trans HSZ4.out e2, e3⟩)⟩
    · have hx' : (x != 0) = true := by simp [hx]
      have HC2 : Hid (copyF D q = (ls0, x)) := by show _ = _; rw [HCF.out, if_neg hx]
      go_wp2_with fail
      refine cretrc _ (setLs wc w.heap.size 0 0 0 (.slice none 0 0)) w.heap.size ls0 (.slice none 0 0) x _ rfl rfl rfl (HV4.out.setAll 0 0 0 (.slice none 0 0)) ?_
      rw [HC2.out]
      exact ⟨_, rfl, World.ownsRow_nil _ _ _ _, below_setLs HB4.out (Nat.le_refl _) _ _ _ _⟩
end
end Go.Proofs.YtiknfifiglooeaaDoor
