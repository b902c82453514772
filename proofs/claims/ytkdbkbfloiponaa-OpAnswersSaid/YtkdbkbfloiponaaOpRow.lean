/- Rows of operations of one's own; the drawn region that appends what readOp read. No conditions beyond those in each statement. -/
import Derived.Test.YtkdbkbfloiponaaOpRd
namespace Go.Proofs.Ytkdbkbfloiponaa
open Go.RowKit
set_option linter.unusedVariables false
set_option linter.unusedSimpArgs false
set_option maxRecDepth 100000

theorem und_ops : Try.prog.underlying 24 = some (.slice 50) := by kernel_rfl
theorem info_op : (Try.prog.info? 50).map (fun i => (i.zero, i.size, i.bytes)) = some (some (opV Opr.zero), 6, 56) := by kernel_rfl
/-- A row of operations of one's own. -/
def ORow (w : World) (base : Nat) (v : Value) (L : List Opr) : Prop := w.ownsRow base 50 6 v L.length (cellsK opOne L)
theorem ORow.below {w w' : World} {base : Nat} {v : Value} {L : List Opr} (h : ORow w base v L) (hb : Below w.heap.size w w') : ORow w' base v L := by
  refine ⟨h.1, h.2.imp id ?_⟩
  rintro ⟨g, c, cur, h1, h3, h4, h5⟩
  exact ⟨g, c, cur, h1, h3, (hb.block g (Array.getElem?_eq_some_iff.1 h4).1).trans h4, h5⟩
theorem ORow.kept {w w' : World} {base : Nat} {v : Value} {r : Nat} {L : List Opr} (h : ORow w base v L) (hg : w.grownBy w' (some r)) (hr : r < base) : ORow w' base v L := by
  refine ⟨h.1, h.2.imp id ?_⟩
  rintro ⟨g, cc, cur, h1, h3, h4, h5⟩
  exact ⟨g, cc, cur, h1, h3, (hg.block g (Array.getElem?_eq_some_iff.1 h4).1 (fun e => by have := Option.some.inj e; omega)).trans h4, h5⟩
theorem ORow.set {w : World} {base : Nat} {v : Value} {b i : Nat} {u : Value} {L : List Opr} (h : ORow w base v L) (hr : b < base) : ORow (w.setCell ⟨b, i, none⟩ u) base v L := by
  refine ⟨h.1, h.2.imp id ?_⟩
  rintro ⟨g, cc, cur, h1, h3, h4, h5⟩
  exact ⟨g, cc, cur, h1, h3, kept_set h4 (by omega), h5⟩
theorem ORow.nil (w : World) (base : Nat) : ORow w base (.slice none 0 0) [] := World.ownsRow_nil _ _ _ _
theorem ORow.form {w : World} {base : Nat} {v : Value} {L : List Opr} (h : ORow w base v L) : ∃ a c, v = .slice a L.length c ∧ (0 < L.length → ∃ g, a = some ⟨g, 0, none⟩ ∧ g < w.heap.size) := by
  rcases h.2 with ⟨h1, h2⟩ | ⟨g, c, cur, h1, _, h4, _⟩
  · exact ⟨none, 0, by rw [h1, h2], fun h => by omega⟩
  · exact ⟨_, _, h1, fun _ => ⟨g, rfl, (Array.getElem?_eq_some_iff.1 h4).1⟩⟩
theorem ORow.own {w : World} {base : Nat} {v : Value} {L : List Opr} (h : ORow w base v L) {g : Nat} (hg : v.ownBlock = some g) : base ≤ g ∧ g < w.heap.size := by
  rcases h.2 with ⟨h1, _⟩ | ⟨g', c, cur, h1, h3, h4, _⟩
  · rw [h1] at hg; simp [Value.ownBlock] at hg
  · rw [h1] at hg; simp [Value.ownBlock] at hg; subst hg; exact ⟨h3, (Array.getElem?_eq_some_iff.1 h4).1⟩
theorem ORow.less {w : World} {base base' : Nat} {v : Value} {L : List Opr} (h : ORow w base v L) (hb : base' ≤ base) : ORow w base' v L := by
  refine ⟨h.1, h.2.imp id ?_⟩
  rintro ⟨g, c, cur, h1, h3, h4⟩
  exact ⟨g, c, cur, h1, by omega, h4⟩
theorem ORow.opC {w : World} {base g c : Nat} {L : List Opr} (h : ORow w base (.slice (some ⟨g, 0, none⟩) L.length c) L) {j : Nat} (hj : j < L.length) : OpC w g (j * 6) (L.getD j Opr.zero) := by
  have hx : L[j]? = some (L.getD j Opr.zero) := by rw [List.getD_eq_getElem?_getD, List.getElem?_eq_getElem hj]; rfl
  have h1 : ∀ i, i < 6 → w.cell? ⟨g, j * 6 + i, none⟩ = (opOne (L.getD j Opr.zero))[i]? := fun i hi => by
    have := World.ownsRow.cellAt h (j * 6 + i) (by omega)
    rw [this, cellsK_at opOne_len L j i _ hx hi]
  exact ⟨h1 0 (by decide), h1 1 (by decide), h1 2 (by decide), h1 3 (by decide), h1 4 (by decide), h1 5 (by decide)⟩
theorem ORow.opsR {w : World} {base : Nat} {v : Value} {L : List Opr} (h : ORow w base v L) (hL : L.length ≤ maxLen) (ho : ∀ x ∈ L, x.Ok) : OpsR w v L := by
  obtain ⟨a, c, rfl, hg⟩ := h.form
  refine ⟨a, c, rfl, hL, ho, ?_⟩
  by_cases h0 : L.length = 0
  · exact .inl h0
  · obtain ⟨g, rfl, hgw⟩ := hg (by omega)
    exact .inr ⟨g, 0, rfl, hgw, fun j hj => by rw [Nat.zero_add]; exact h.opC hj⟩
/-- What several readOps read. -/
def rdOs : Nat → RS → List Opr × RS
  | 0, st => ([], st)
  | n + 1, st => ((rdOs n st).1 ++ [(rdO (rdOs n st).2).1], (rdO (rdOs n st).2).2)
theorem rdOs_len (n : Nat) (st : RS) : (rdOs n st).1.length = n := by
  induction n with
  | zero => rfl
  | succ n ih => show ((rdOs n st).1 ++ _).length = _; rw [List.length_append, ih]; rfl
theorem textF_len (most : Nat) (st : RS) : (textF most st).1.length ≤ most := by
  cases st with
  | none => exact Nat.zero_le _
  | some l =>
    unfold textF
    by_cases hc : l.length < 2 ∨ (most : Int) < (val (l.take 2) : Int)
    · simp only [numF, hc, if_true]; simp [takeF]
    · simp only [numF, hc, if_false]
      have := takeF_len (val (l.take 2)) (some (l.drop 2))
      rw [Int.toNat_natCast]; omega
theorem size_arr (l : List UInt8) : (⟨l.toArray⟩ : ByteArray).size = l.length := by simp [ByteArray.size]
theorem rdO_ok (st : RS) : (rdO st).1.Ok ∧ (rdO st).1.path.size ≤ 60 ∧ (rdO st).1.data.size ≤ 61 ∧ (0 ≤ (rdO st).1.does ∧ (rdO st).1.does ≤ 4) ∧ -1 ≤ (rdO st).1.ver ∧ (rdO st).1.ver < 281474976710655 := by
  have q1 := numF_most st 4 (by decide)
  have q2 := numF_most (numF 6 4 st).2 281474976710655 (by decide)
  have q3 := textF_len 60 (numF 6 281474976710655 (numF 6 4 st).2).2
  have q4 := textF_len 61 (textF 60 (numF 6 281474976710655 (numF 6 4 st).2).2).2
  rw [← size_arr] at q3 q4
  have e1 : (rdO st).1.does = (numF 6 4 st).1 := rfl
  have e2 : (rdO st).1.path.size ≤ 60 := q3
  have e3 : (rdO st).1.data.size ≤ 61 := q4
  have e4 : (rdO st).1.ver = (numF 6 281474976710655 (numF 6 4 st).2).1 + -1 := rfl
  refine ⟨⟨?_, ?_, ?_, ?_⟩, e2, e3, ?_, ?_⟩
  · unfold InR; rw [e1]; omega
  · unfold maxLen; omega
  · unfold maxLen; omega
  · unfold InR; rw [e4]; omega
  · rw [e1]; omega
  · rw [e4]; omega
theorem rdOs_ok (n : Nat) (st : RS) : ∀ x ∈ (rdOs n st).1, x.Ok := by
  induction n with
  | zero => intro x hx; cases hx
  | succ n ih =>
    intro x hx
    rcases List.mem_append.1 (show x ∈ (rdOs n st).1 ++ [(rdO (rdOs n st).2).1] from hx) with hx | hx
    · exact ih x hx
    · rw [List.mem_singleton.1 hx]; exact (rdO_ok _).1
/-- A command in a block of its own. -/
def cmA (v : Value) (c : Cm) : Array Value := #[.int .i64 c.kind, .int .i64 c.ses, .int .i64 c.req, .int .i64 c.noted, v, .string c.path, .bool c.kids, .bool c.once]
def CmB (w : World) (b : Nat) (v : Value) (c : Cm) : Prop := w.heap[b]? = some (.cells (cmA v c) 26 (0, 0))
def Cm.zero : Cm := ⟨0, 0, 0, 0, [], ⟨#[]⟩, false, false⟩
theorem CmB.lt {w : World} {b : Nat} {v : Value} {o : Cm} (h : CmB w b v o) : b < w.heap.size := (Array.getElem?_eq_some_iff.1 h).1
theorem CmB.below {w w' : World} {b : Nat} {v : Value} {o : Cm} (h : CmB w b v o) (hb : Below w.heap.size w w') : CmB w' b v o := (hb.block b h.lt).trans h
theorem CmB.kept {w w' : World} {b : Nat} {v : Value} {o : Cm} {r : Option Nat} (h : CmB w b v o) (hg : w.grownBy w' r) (hr : some b ≠ r) : CmB w' b v o := (hg.block b h.lt hr).trans h
theorem CmB.cells {w : World} {b : Nat} {v : Value} {n : Cm} (h : CmB w b v n) : (w.cell? ⟨b, 0, none⟩ = some (.int .i64 n.kind) ∧ w.cell? ⟨b, 1, none⟩ = some (.int .i64 n.ses) ∧ w.cell? ⟨b, 2, none⟩ = some (.int .i64 n.req) ∧ w.cell? ⟨b, 3, none⟩ = some (.int .i64 n.noted) ∧ w.cell? ⟨b, 4, none⟩ = some v ∧ w.cell? ⟨b, 5, none⟩ = some (.string n.path) ∧ w.cell? ⟨b, 6, none⟩ = some (.bool n.kids) ∧ w.cell? ⟨b, 7, none⟩ = some (.bool n.once)) ∧
    (w.frozen? ⟨b, 0, none⟩ = false ∧ w.frozen? ⟨b, 1, none⟩ = false ∧ w.frozen? ⟨b, 2, none⟩ = false ∧ w.frozen? ⟨b, 3, none⟩ = false ∧ w.frozen? ⟨b, 4, none⟩ = false ∧ w.frozen? ⟨b, 5, none⟩ = false ∧ w.frozen? ⟨b, 6, none⟩ = false ∧ w.frozen? ⟨b, 7, none⟩ = false) := by
  unfold CmB cmA at h
  simp [World.cell?, World.frozen?, h]
theorem CmB.new (w : World) (v : Value) (n : Cm) : CmB (w.alloc (.cells (cmA v n) 26)) w.heap.size v n := heap_alloc_new w _
theorem CmB.set {w : World} {b c i : Nat} {u v : Value} {o : Cm} (h : CmB w c v o) (hne : c ≠ b) : CmB (w.setCell ⟨b, i, none⟩ u) c v o := kept_set h hne
/-- The region's steps. -/
theorem run_fC4 (W : World) (b : Nat) : (Instr.fieldAt 26 (.pointer (some ⟨b, 0, none⟩)) 4).run Try.prog W = .ok (.pointer (some ⟨b, 4, none⟩)) W := by go_simp
theorem run_loadOps (W : World) (p : Addr) (a : Option Addr) (n c : Nat) (h : W.cell? p = some (.slice a n c)) : (Instr.loadAt 24 (.pointer (some p))).run Try.prog W = .ok (.slice a n c) W := by go_simp
theorem run_storeOps (W : World) (p : Addr) (a : Option Addr) (n c : Nat) (u : Value) (h : W.cell? p = some u) (hf : W.frozen? p = false) : (Instr.storeAt 24 (.pointer (some p)) (.slice a n c)).run Try.prog W = .ok () (W.setCell p (.slice a n c)) := by go_simp
theorem run_rowO (W : World) (o : Opr) : (Instr.buildSlice 24 1 #[(0, opV o)]).run Try.prog W = .ok (.slice (some ⟨W.heap.size, 0, none⟩) 1 1) (W.alloc (.cells (opA o) 50)) := by unfold opV opA; go_simp
theorem call_rdop (W : World) (v : Value) : (callFunc 24 #[v]).run Try.prog W = .ok (.enter 24 #[v]) W := by kernel_rfl
section
variable {P : Program} {Q : Exit → Act → World → Prop} {l : List Oper}
theorem gstep_row1 {i : Nat} {o : Oper} {a : Act} {w : World} {K : Act → World → Prop} (ho : l[i]? = some o) (hw : WantedIs l a o true) (t : TypeId) (s1 : Operand) (hop : o.op = .buildSlice t 1 #[(0, s1)]) (v1 : Value) (he1 : a.eval s1 = v1) (v' : Value) (w' : World)
    (hr : (Instr.buildSlice t 1 #[(0, v1)]).run P w = .ok v' w') (h : K (a.put o.dst v') w') : Step P l Q i K a w :=
  gstep_value ho hw v' w' (by simp only [execOp, hop, List.map_toArray, List.map_cons, List.map_nil, he1, Sem.run_bind, Sem.run_pure, hr, Result.andThen_ok]) h
end
theorem setB_up {b : Nat → Bool} {i j : Nat} (h : b j = true) : setB b i j = true := by unfold setB; split; rfl; exact h
def FRd (cb rb : Nat) (v0 : Value) (o : Opr) : Nat → Value → Prop
  | 0, v => v = .pointer (some ⟨cb, 4, none⟩)
  | 1, v => v = v0
  | 2, v => v = .pointer (some ⟨rb, 0, none⟩)
  | 3, v => v = opV o
  | 6, v => v = .pointer (some ⟨cb, 4, none⟩)
  | _, _ => True
/-- What has run of the region that appends what readOp read. -/
structure JRd (base rs rb cb : Nat) (w0 : World) (v0 : Value) (c : Cm) (st : RS) (b : Nat → Bool) (x : Nat → Value) (w : World) : Prop where
  bel : Below w0.heap.size w0 w
  res : CmB w rs (.slice none 0 0) Cm.zero
  box : CmB w cb v0 c
  rd : Rs w rb (if b 3 then (rdO st).2 else st)
  low : base ≤ w.heap.size
  row : b 5 = false → ORow w base v0 c.ops
  u4 : b 4 = true → b 3 = true
  u5 : b 5 = true → b 4 = true
  r4 : b 4 = true → b 5 = false → ∃ g, x 4 = .slice (some ⟨g, 0, none⟩) 1 1 ∧ OpB w g (rdO st).1
  r5 : b 5 = true → ORow w base (x 5) (c.ops ++ [(rdO st).1])
section
variable {base rs rb cb : Nat} {w0 w w' : World} {v0 : Value} {c : Cm} {st : RS} {b : Nat → Bool} {x : Nat → Value}
theorem JRd.n3 (h : JRd base rs rb cb w0 v0 c st b x w) (h3 : b 3 = false) : b 4 = false ∧ b 5 = false := by
  have h4 : b 4 = false := by cases e : b 4; rfl; have := h.u4 e; rw [h3] at this; cases this
  exact ⟨h4, by cases e : b 5; rfl; have := h.u5 e; rw [h4] at this; cases this⟩
theorem JRd.n4 (h : JRd base rs rb cb w0 v0 c st b x w) (h4 : b 4 = false) : b 5 = false := by cases e : b 5; rfl; have := h.u5 e; rw [h4] at this; cases this
theorem JRd.pure {i : Nat} {v : Value} (h : JRd base rs rb cb w0 v0 c st b x w) (hi : ¬ 3 = i ∧ ¬ 4 = i ∧ ¬ 5 = i) : JRd base rs rb cb w0 v0 c st (setB b i) (setX x i v) w := by
  obtain ⟨e3, e4, e5⟩ := hi
  refine ⟨h.bel, h.res, h.box, by rw [setB_ne e3]; exact h.rd, h.low, by rw [setB_ne e5]; exact h.row, ?_, ?_, ?_, ?_⟩
  · rw [setB_ne e4, setB_ne e3]; exact h.u4
  · rw [setB_ne e4, setB_ne e5]; exact h.u5
  · rw [setB_ne e4, setB_ne e5, setX_ne e4]; exact h.r4
  · rw [setB_ne e5, setX_ne e5]; exact h.r5
theorem JRd.s3 {v : Value} (h : JRd base rs rb cb w0 v0 c st b x w) (h3 : b 3 = false) (hd : rs < base ∧ rb < base ∧ cb < base ∧ rs ≠ rb ∧ cb ≠ rb ∧ w0.heap.size ≤ rb) (hr : Rs w' rb (rdO st).2) (hg : w.grownBy w' (some rb)) : JRd base rs rb cb w0 v0 c st (setB b 3) (setX x 3 v) w' := by
  obtain ⟨h4, h5⟩ := h.n3 h3
  obtain ⟨d1, d2, d3, d4, d5, d6⟩ := hd
  refine ⟨h.bel.grown hg h.bel.size (fun q hq => by have := Option.some.inj hq; omega), h.res.kept hg (fun e => d4 (Option.some.inj e)), h.box.kept hg (fun e => d5 (Option.some.inj e)), by rw [setB_same]; exact hr, Nat.le_trans h.low hg.size, fun _ => (h.row h5).kept hg d2, fun _ => setB_same _ _, ?_, ?_, ?_⟩
  · rw [setB_ne (by decide), h5]; intro e; cases e
  · rw [setB_ne (by decide), h4]; intro e; cases e
  · rw [setB_ne (by decide), h5]; intro e; cases e
theorem JRd.s4 (h : JRd base rs rb cb w0 v0 c st b x w) (h3 : b 3 = true) (h4 : b 4 = false) : JRd base rs rb cb w0 v0 c st (setB b 4) (setX x 4 (.slice (some ⟨w.heap.size, 0, none⟩) 1 1)) (w.alloc (.cells (opA (rdO st).1) 50)) := by
  have h5 := h.n4 h4
  have bb := (Below.refl _ w).alloc (Nat.le_refl _) (.cells (opA (rdO st).1) 50)
  refine ⟨h.bel.alloc h.bel.size _, h.res.below bb, h.box.below bb, by rw [setB_ne (by decide), h3]; have := h.rd; rw [h3] at this; exact Rs.below this bb, Nat.le_trans h.low bb.size, fun _ => (h.row h5).below bb, fun _ => by rw [setB_ne (by decide)]; exact h3, ?_, ?_, ?_⟩
  · intro _; exact setB_same _ _
  · intro _ _; exact ⟨w.heap.size, setX_same _ _ _, OpB.new w _⟩
  · rw [setB_ne (by decide), h5]; intro e; cases e
theorem JRd.s5 {v : Value} (h : JRd base rs rb cb w0 v0 c st b x w) (h4 : b 4 = true) (h5 : b 5 = false) (hd : rs < base ∧ rb < base ∧ cb < base ∧ w0.heap.size ≤ base) (hr : w'.ownsRow base 50 6 v (c.ops.length + 1) (cellsK opOne c.ops ++ cellsK opOne [(rdO st).1])) (hg : w.grownBy w' v0.ownBlock) : JRd base rs rb cb w0 v0 c st (setB b 5) (setX x 5 v) w' := by
  have hrow := h.row h5
  have h3 := h.u4 h4
  obtain ⟨d1, d2, d3, d4⟩ := hd
  have ho : ∀ g, v0.ownBlock = some g → base ≤ g := fun g hg => (hrow.own hg).1
  refine ⟨h.bel.grown hg h.bel.size (fun q hq => by have := ho q hq; omega), h.res.kept hg (fun e => by have := ho _ e.symm; omega), h.box.kept hg (fun e => by have := ho _ e.symm; omega), ?_, Nat.le_trans h.low hg.size, ?_, ?_, ?_, ?_, ?_⟩
  · rw [setB_ne (by decide), h3]; have hq := h.rd; rw [h3] at hq; exact Rs.kept hq hg (fun e => by have := ho _ e.symm; omega)
  · rw [setB_same]; intro e; cases e
  · intro _; rw [setB_ne (by decide)]; exact h3
  · intro _; rw [setB_ne (by decide)]; exact h4
  · rw [setB_same]; intro _ e; cases e
  · intro _; rw [setX_same]; unfold ORow; rw [cellsK_append, List.length_append]; exact hr
end
end Go.Proofs.Ytkdbkbfloiponaa
