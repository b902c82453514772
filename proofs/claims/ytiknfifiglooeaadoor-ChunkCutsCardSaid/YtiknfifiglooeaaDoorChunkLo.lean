/- listOf: what a copy's block says, in pure words; and the two regions of the code that read it, in any order. No conditions beyond those in each statement. -/
import Derived.Test.YtiknfifiglooeaaDoorChunkLr
import Derived.Test.YtiknfifiglooeaaDoorInvar6
import Derived.Laws.AppendOwn
namespace Go.Proofs.YtiknfifiglooeaaDoor
open Go Go.RowKit Go.Proofs.Tryd
set_option linter.unusedVariables false
set_option maxRecDepth 100000

/-- So many sums from a reader. -/
def rdSm : Nat → RS → List Int × RS
  | 0, st => ([], st)
  | k + 1, st => ((rdSm k st).1 ++ [(numF 6 4294967295 (rdSm k st).2).1], (numF 6 4294967295 (rdSm k st).2).2)
theorem rdSm_length (k : Nat) (st : RS) : (rdSm k st).1.length = k := by
  induction k with
  | zero => rfl
  | succ k ih => simp [rdSm, ih]
theorem numF_most (n : Nat) (most : Int) (h0 : 0 ≤ most) (st : RS) : 0 ≤ (numF n most st).1 ∧ (numF n most st).1 ≤ most := by
  cases st with
  | none => exact ⟨Int.le_refl 0, h0⟩
  | some l =>
    by_cases hc : l.length < n ∨ most < (val (l.take n) : Int)
    · simp only [numF, hc, if_true]
      exact ⟨Int.le_refl 0, h0⟩
    · simp only [numF, hc, if_false]
      refine ⟨by simp, ?_⟩
      simp only [not_or] at hc
      omega
theorem rdSm_in (k : Nat) (st : RS) : ∀ z ∈ (rdSm k st).1, 0 ≤ z ∧ z ≤ 4294967295 := by
  induction k with
  | zero => intro z hz; cases hz
  | succ k ih =>
    intro z hz
    rcases List.mem_append.1 hz with hz | hz
    · exact ih z hz
    · rw [List.mem_singleton.1 hz]; exact numF_most _ _ (by decide) _
def ls0 : Ls := ⟨0, 0, 0, []⟩
def loA (r : Rc) : Int × RS := numF 6 281474976710655 (some r.data.data.toList)
def loB (r : Rc) : Int × RS := numF 6 64 (loA r).2
def loC (r : Rc) : List Int × RS := rdSm (loB r).1.toNat (loB r).2
/-- What a copy's block says. -/
def listF (r : Rc) : Ls := if r.kind = 4 ∧ doneF (loC r).2 = 0 ∧ validB r.index r.term (loA r).1 (loC r).1.length = true then ⟨r.index, r.term, (loA r).1, (loC r).1⟩ else ls0
/-- All lies as it lay, but one block and one row. -/
structure FrL (b : Nat) (r : Option Nat) (w w' : World) : Prop where
  os : w'.os = w.os
  tape : w'.tape = w.tape
  output : w'.output = w.output
  size : w.heap.size ≤ w'.heap.size
  block : ∀ k, k < w.heap.size → k ≠ b → some k ≠ r → w'.heap[k]? = w.heap[k]?
theorem FrL.below {w w' : World} {b : Nat} {r : Option Nat} (h : FrL b r w w') {base : Nat} (h1 : base ≤ b) (h2 : ∀ q, r = some q → base ≤ q) (h3 : base ≤ w.heap.size) : Below base w w' :=
  ⟨h.os, h.tape, h.output, h.size, fun k hk => h.block k (by omega) (by omega) (fun e => by have := h2 k e.symm; omega)⟩
theorem FrL.of_two {w u x : World} {b : Nat} {r : Option Nat} (h : w.grownBy u (some b)) (k : u.grownBy x r) : FrL b r w x :=
  ⟨k.os.trans h.os, k.tape.trans h.tape, k.output.trans h.output, Nat.le_trans h.size k.size, fun j hj h1 h2 => (k.block j (Nat.lt_of_lt_of_le hj h.size) h2).trans (h.block j hj (fun e => h1 (Option.some.inj e)))⟩
theorem Rs.block {w : World} {b : Nat} {st : RS} (h : Rs w b st) : ∃ cs, w.heap[b]? = some (.cells cs 195 (0, 0)) := by
  cases st with
  | none => exact ⟨_, h⟩
  | some l => exact ⟨_, h.1⟩
theorem Rs.not_row {w : World} {b : Nat} {st : RS} (h : Rs w b st) {base k : Nat} {v : Value} {xs : List Value} (hr : w.ownsRow base 70 1 v k xs) : some b ≠ v.ownBlock := by
  intro e
  obtain ⟨cs, hcs⟩ := ownsRow_block hr e.symm
  obtain ⟨cs', h⟩ := h.block
  rw [hcs] at h
  simp at h
theorem Rs.not_ls {w : World} {b lb : Nat} {st : RS} (h : Rs w b st) {i t n : Int} {sv : Value} (hl : LsB w lb i t n sv) : lb ≠ b := by
  intro e
  obtain ⟨cs', h⟩ := h.block
  unfold LsB at hl
  rw [e, h] at hl
  simp at hl
theorem Rs.same {w w' : World} {b : Nat} {st : RS} (h : Rs w b st) (e : w'.heap[b]? = w.heap[b]?) : Rs w' b st := by
  cases st with
  | none => exact e.trans h
  | some l => exact ⟨e.trans h.1, h.2⟩
theorem call_rnum (W : World) (u v : Value) : (callFunc 106 #[u, v]).run Tryd.prog W = .ok (.enter 106 #[u, v]) W := by go_simp
section
variable {Q : Exit → Act → World → Prop} {l : List Oper}
theorem gstep_u32 {i : Nat} {o : Oper} {a : Act} {w : World} {K : Act → World → Prop} (ho : l[i]? = some o) (hw : WantedIs l a o true) (s : Operand) (hop : o.op = .convert 3 70 s) (z : Int) (he : a.eval s = .int .i64 z) (hz : 0 ≤ z ∧ z ≤ 4294967295)
    (h : K (a.put o.dst (.int .u32 z)) w) : Step Tryd.prog l Q i K a w :=
  gstep_value ho hw _ w (by
    have e : IntKind.u32.wrap z = z := by rw [IntKind.wrap_u32]; omega
    simp only [execOp, hop, he]
    go_simp) h
end
/-- What has run of a sum's reading. -/
def F7 (lb rb : Nat) (sv : Value) (z : Int) : Nat → Value → Prop
  | 0, v | 7, v => v = .pointer (some ⟨lb, 3, none⟩)
  | 1, v => v = sv
  | 2, v => v = .pointer (some ⟨rb, 0, none⟩)
  | 3, v => v = .int .i64 z
  | 4, v => v = .int .u32 z
  | _, _ => True
structure J7 (w0 : World) (base rb : Nat) (sv : Value) (ss : List Int) (z : Int) (s0 s1 : RS) (b : Nat → Bool) (x : Nat → Value) (w : World) : Prop where
  o4 : b 4 = true → b 3 = true
  o5 : b 5 = true → b 4 = true
  o6 : b 6 = true → b 5 = true ∧ b 1 = true
  rd : Rs w rb (if b 3 = true then s1 else s0)
  one : b 6 = false → w0.grownBy w (some rb)
  new : b 6 = false → b 5 = true → ∃ g, x 5 = .slice (some ⟨g, 0, none⟩) 1 1 ∧ w.heap[g]? = some (.cells #[.int .u32 z] 70 (0, 0))
  done : b 6 = true → FrL rb sv.ownBlock w0 w ∧ w.ownsRow base 70 1 (x 6) (ss.length + 1) (smCells (ss ++ [z]))
section
variable {w0 w : World} {base rb lb : Nat} {sv : Value} {ss : List Int} {z : Int} {s0 s1 : RS} {b : Nat → Bool} {x : Nat → Value}
theorem J7.start (h : Rs w0 rb s0) (x : Nat → Value) : J7 w0 base rb sv ss z s0 s1 (fun _ => false) x w0 where
  o4 := fun h => by cases h
  o5 := fun h => by cases h
  o6 := fun h => by cases h
  rd := h
  one := fun _ => only_refl w0 _
  new := fun _ h => by cases h
  done := fun h => by cases h
theorem J7.off6 (h : J7 w0 base rb sv ss z s0 s1 b x w) {k : Nat} (hk : k = 1 ∨ k = 3 ∨ k = 5 ∨ k = 6) (hb : b k = false) : b 6 = false := by
  cases e : b 6 with
  | false => rfl
  | true =>
    obtain ⟨h5, h1⟩ := h.o6 e
    have h4 := h.o5 h5
    have h3 := h.o4 h4
    rcases hk with rfl | rfl | rfl | rfl
    · rw [hb] at h1; cases h1
    · rw [hb] at h3; cases h3
    · rw [hb] at h5; cases h5
    · rw [hb] at e; cases e
theorem J7.pure (h : J7 w0 base rb sv ss z s0 s1 b x w) {k : Nat} {v : Value} (hk : k ≠ 3 ∧ k ≠ 4 ∧ k ≠ 5 ∧ k ≠ 6) : J7 w0 base rb sv ss z s0 s1 (setB b k) (setX x k v) w := by
  obtain ⟨h3, h4, h5, h6⟩ := hk
  have e3 := setB_ne (b := b) (Ne.symm h3)
  have e4 := setB_ne (b := b) (Ne.symm h4)
  have e5 := setB_ne (b := b) (Ne.symm h5)
  have e6 := setB_ne (b := b) (Ne.symm h6)
  refine ⟨?_, ?_, ?_, ?_, ?_, ?_, ?_⟩
  · rw [e3, e4]; exact h.o4
  · rw [e4, e5]; exact h.o5
  · rw [e5, e6]
    intro e
    obtain ⟨a1, a2⟩ := h.o6 e
    refine ⟨a1, ?_⟩
    unfold setB
    split
    · rfl
    · exact a2
  · rw [e3]; exact h.rd
  · rw [e6]; exact h.one
  · rw [e6, e5, setX_ne (Ne.symm h5)]; exact h.new
  · rw [e6, setX_ne (Ne.symm h6)]; exact h.done
theorem J7.conv (h : J7 w0 base rb sv ss z s0 s1 b x w) (h3 : b 3 = true) {v : Value} : J7 w0 base rb sv ss z s0 s1 (setB b 4) (setX x 4 v) w := by
  have e3 := setB_ne (b := b) (show (3 : Nat) ≠ 4 by decide)
  have e5 := setB_ne (b := b) (show (5 : Nat) ≠ 4 by decide)
  have e6 := setB_ne (b := b) (show (6 : Nat) ≠ 4 by decide)
  have e1 := setB_ne (b := b) (show (1 : Nat) ≠ 4 by decide)
  refine ⟨?_, ?_, ?_, ?_, ?_, ?_, ?_⟩
  · rw [e3]; exact fun _ => h3
  · intro _; exact setB_same _ _
  · rw [e5, e6, e1]; exact h.o6
  · rw [e3]; exact h.rd
  · rw [e6]; exact h.one
  · rw [e6, e5, setX_ne (by decide)]; exact h.new
  · rw [e6, setX_ne (by decide)]; exact h.done
theorem J7.num (h : J7 w0 base rb sv ss z s0 s1 b x w) (hb : b 3 = false) {v : Value} {w' : World} (hr : Rs w' rb s1) (hg : w.grownBy w' (some rb)) : J7 w0 base rb sv ss z s0 s1 (setB b 3) (setX x 3 v) w' := by
  have h6 := h.off6 (.inr (.inl rfl)) hb
  have h5 : b 5 = false := by
    cases e : b 5 with
    | false => rfl
    | true => have := h.o4 (h.o5 e); rw [hb] at this; cases this
  have e4 := setB_ne (b := b) (show (4 : Nat) ≠ 3 by decide)
  have e5 := setB_ne (b := b) (show (5 : Nat) ≠ 3 by decide)
  have e6 := setB_ne (b := b) (show (6 : Nat) ≠ 3 by decide)
  refine ⟨?_, ?_, ?_, ?_, ?_, ?_, ?_⟩
  · intro _; exact setB_same _ _
  · rw [e4, e5]; exact h.o5
  · rw [e6, h6]; exact fun e => by cases e
  · rw [setB_same]; exact hr
  · intro _; exact only_trans (h.one h6) hg
  · rw [e5, h5]; exact fun _ e => by cases e
  · rw [e6, h6]; exact fun e => by cases e
theorem J7.made (h : J7 w0 base rb sv ss z s0 s1 b x w) (hb : b 5 = false) (h4 : b 4 = true) : J7 w0 base rb sv ss z s0 s1 (setB b 5) (setX x 5 (.slice (some ⟨w.heap.size, 0, none⟩) 1 1)) (w.alloc (.cells #[.int .u32 z] 70)) := by
  have h6 := h.off6 (.inr (.inr (.inl rfl))) hb
  have e3 := setB_ne (b := b) (show (3 : Nat) ≠ 5 by decide)
  have e4 := setB_ne (b := b) (show (4 : Nat) ≠ 5 by decide)
  have e6 := setB_ne (b := b) (show (6 : Nat) ≠ 5 by decide)
  refine ⟨?_, ?_, ?_, ?_, ?_, ?_, ?_⟩
  · rw [e4, e3]; exact h.o4
  · rw [e4]; exact fun _ => h4
  · rw [e6, h6]; exact fun e => by cases e
  · rw [e3]; exact h.rd.below ((Below.refl _ _).alloc (Nat.le_refl _) _)
  · intro _; exact only_alloc (h.one h6) _
  · intro _ _; exact ⟨w.heap.size, setX_same _ _ _, heap_alloc_new w _⟩
  · rw [e6, h6]; exact fun e => by cases e
theorem J7.row (h : J7 w0 base rb sv ss z s0 s1 b x w) (h0 : Rs w0 rb s0) (hr : w0.ownsRow base 70 1 sv ss.length (smCells ss)) (hb : b 6 = false) : w.ownsRow base 70 1 sv ss.length (smCells ss) :=
  ownsRow_same hr (fun k hk => (h.one hb).block k (World.ownsRow.lt hr k hk).2 (fun e => h0.not_row hr (by rw [hk]; exact e.symm)))
theorem J7.app (h : J7 w0 base rb sv ss z s0 s1 b x w) (h0 : Rs w0 rb s0) (hr : w0.ownsRow base 70 1 sv ss.length (smCells ss)) (hb : b 6 = false) (h5 : b 5 = true) (h1 : b 1 = true) {v' : Value} {w' : World}
    (ho : w'.ownsRow base 70 1 v' (ss.length + 1) (smCells ss ++ [.int .u32 z])) (hg : w.grownBy w' sv.ownBlock) : J7 w0 base rb sv ss z s0 s1 (setB b 6) (setX x 6 v') w' := by
  have e1 := setB_ne (b := b) (show (1 : Nat) ≠ 6 by decide)
  have e3 := setB_ne (b := b) (show (3 : Nat) ≠ 6 by decide)
  have e4 := setB_ne (b := b) (show (4 : Nat) ≠ 6 by decide)
  have e5 := setB_ne (b := b) (show (5 : Nat) ≠ 6 by decide)
  refine ⟨?_, ?_, ?_, ?_, ?_, ?_, ?_⟩
  · rw [e4, e3]; exact h.o4
  · rw [e4, e5]; exact h.o5
  · rw [e5, e1]; exact fun _ => ⟨h5, h1⟩
  · rw [e3]; exact h.rd.kept hg (h.rd.not_row (h.row h0 hr hb))
  · rw [setB_same]; exact fun e => by cases e
  · rw [setB_same]; exact fun e => by cases e
  · intro _
    rw [setX_same, smCells_append]
    exact ⟨FrL.of_two (h.one hb) hg, ho⟩
theorem J7.ls (h : J7 w0 base rb sv ss z s0 s1 b x w) (h0 : Rs w0 rb s0) {i t n : Int} (hl : LsB w0 lb i t n sv) (hb : b 1 = false) : LsB w lb i t n sv :=
  ((h.one (h.off6 (.inl rfl) hb)).block lb hl.lt (fun e => h0.not_ls hl (Option.some.inj e))).trans hl
end
/-- What has run of the reading of a list's head. -/
def F4 (cb rb : Nat) (r : Rc) (n : Int) : Nat → Value → Prop
  | 0, v => v = .pointer (some ⟨cb, 1, none⟩)
  | 1, v => v = .int .i64 r.index
  | 2, v => v = .pointer (some ⟨cb, 2, none⟩)
  | 3, v => v = .int .i64 r.term
  | 4, v => v = .pointer (some ⟨rb, 0, none⟩)
  | 5, v => v = .int .i64 n
  | 6, v => v = .agg #[.int .i64 r.index, .int .i64 r.term, .int .i64 n, .slice none 0 0]
  | _, _ => True
structure J4 (w0 : World) (rb : Nat) (s0 s1 : RS) (b : Nat → Bool) (x : Nat → Value) (w : World) : Prop where
  rd : Rs w rb (if b 5 = true then s1 else s0)
  one : w0.grownBy w (some rb)
  new : b 7 = true → ∃ g, x 7 = .pointer (some ⟨g, 0, none⟩) ∧ w0.heap.size ≤ g ∧ LsB w g 0 0 0 (.slice none 0 0)
section
variable {w0 w : World} {rb : Nat} {s0 s1 : RS} {b : Nat → Bool} {x : Nat → Value}
theorem J4.start (h : Rs w0 rb s0) (x : Nat → Value) : J4 w0 rb s0 s1 (fun _ => false) x w0 := ⟨h, only_refl w0 _, fun h => by cases h⟩
theorem J4.pure (h : J4 w0 rb s0 s1 b x w) {k : Nat} {v : Value} (hk : k ≠ 5 ∧ k ≠ 7) : J4 w0 rb s0 s1 (setB b k) (setX x k v) w := by
  refine ⟨?_, h.one, ?_⟩
  · rw [setB_ne (Ne.symm hk.1)]; exact h.rd
  · rw [setB_ne (Ne.symm hk.2), setX_ne (Ne.symm hk.2)]; exact h.new
theorem J4.num (h : J4 w0 rb s0 s1 b x w) {v : Value} {w' : World} (hl : rb < w0.heap.size) (hr : Rs w' rb s1) (hg : w.grownBy w' (some rb)) : J4 w0 rb s0 s1 (setB b 5) (setX x 5 v) w' := by
  refine ⟨?_, only_trans h.one hg, ?_⟩
  · rw [setB_same]; exact hr
  · rw [setB_ne (by decide), setX_ne (by decide)]
    intro h7
    obtain ⟨g, h1, h2, h3⟩ := h.new h7
    exact ⟨g, h1, h2, (hg.block g h3.lt (fun e => by have := Option.some.inj e; omega)).trans h3⟩
theorem J4.made (h : J4 w0 rb s0 s1 b x w) : J4 w0 rb s0 s1 (setB b 7) (setX x 7 (.pointer (some ⟨w.heap.size, 0, none⟩))) (w.alloc (.cells #[.int .i64 0, .int .i64 0, .int .i64 0, .slice none 0 0] 67)) := by
  refine ⟨?_, only_alloc h.one _, ?_⟩
  · rw [setB_ne (by decide)]; exact h.rd.below ((Below.refl _ _).alloc (Nat.le_refl _) _)
  · intro _
    exact ⟨w.heap.size, setX_same _ _ _, h.one.size, LsB.new w 0 0 0 (.slice none 0 0)⟩
end
theorem run_storeLs (W : World) (b : Nat) (i t n i0 t0 n0 : Int) (sv s0 : Value) (h : LsB W b i0 t0 n0 s0) (hs : ∃ a m c, sv = .slice a m c) : (Instr.storeAt 67 (.pointer (some ⟨b, 0, none⟩)) (.agg #[.int .i64 i, .int .i64 t, .int .i64 n, sv])).run Tryd.prog W = .ok () (setLs W b i t n sv) := by
  obtain ⟨⟨c0, c1, c2, c3⟩, f0, f1, f2, f3⟩ := h.cells
  obtain ⟨a, m, c, rfl⟩ := hs
  unfold setLs
  go_simp
section
variable {Q : Exit → Act → World → Prop} {l : List Oper}
theorem gstep_mkL {i : Nat} {o : Oper} {a : Act} {w : World} {K : Act → World → Prop} (ho : l[i]? = some o) (hw : WantedIs l a o true) (s0 s1 s2 : Operand) (hop : o.op = .build 67 #[(0, s0), (1, s1), (2, s2)]) (x y z : Int) (h0 : a.eval s0 = .int .i64 x) (h1 : a.eval s1 = .int .i64 y) (h2 : a.eval s2 = .int .i64 z)
    (h : K (a.put o.dst (.agg #[.int .i64 x, .int .i64 y, .int .i64 z, .slice none 0 0])) w) : Step Tryd.prog l Q i K a w :=
  gstep_value ho hw _ w (by simp only [execOp, hop, List.map_toArray, List.map_cons, List.map_nil, h0, h1, h2]; go_simp) h
theorem gstep_newL {i : Nat} {o : Oper} {a : Act} {w : World} {K : Act → World → Prop} (ho : l[i]? = some o) (hw : WantedIs l a o true) (hop : o.op = .alloc 67)
    (h : K (a.put o.dst (.pointer (some ⟨w.heap.size, 0, none⟩))) (w.alloc (.cells #[.int .i64 0, .int .i64 0, .int .i64 0, .slice none 0 0] 67))) : Step Tryd.prog l Q i K a w :=
  gstep_value ho hw _ _ (by simp only [execOp, hop]; go_simp) h
end
theorem cretlo (A : Act) (W : World) (b : Nat) (l : Ls) (sv : Value) (Q : Ending → World → Prop) (h2 : A.tmps.getD 2 undef = .pointer (some ⟨b, 0, none⟩)) (hd : A.defers = []) (hr : LsB W b l.index l.term l.bytes sv)
    (hq : Q (.returned (lsV l sv)) W) : bodyPost Tryd.prog Tryd.f111 Q Exit.ret A W := by
  obtain ⟨⟨c0, c1, c2, c3⟩, _⟩ := hr.cells
  have e2 : A.tmps[2]?.getD undef = .pointer (some ⟨b, 0, none⟩) := by simpa using h2
  exact bodyPost_ret (v := lsV l sv) (by simp [results, Tryd.results111, go_sem, lsV, e2, c0, c1, c2, c3]) hd hq
end Go.Proofs.YtiknfifiglooeaaDoor
