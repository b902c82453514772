/- Fire: the steps of its loop. No conditions beyond those in each statement. -/
import Derived.Test.YtbbdokfankgllaaGreatDoorWFireA
import Derived.Laws.EntriesVeiled
import Derived.Maps.AppendAt
namespace Go.Proofs.YtbbdokfankgllaaGreatDoor
open Go.RowKit Go.Maps Go.Shelf
set_option linter.unusedVariables false
set_option linter.unusedSimpArgs false
set_option maxRecDepth 100000

theorem run_bkF1 (W : World) (b : Nat) : (Instr.fieldAt 56 (.pointer (some ⟨b, 0, none⟩)) 1).run Tryz.prog W = .ok (.pointer (some ⟨b, 1, none⟩)) W := by go_simp
theorem run_fW0 (W : World) (b : Nat) : (Instr.fieldAt 49 (.pointer (some ⟨b, 0, none⟩)) 0).run Tryz.prog W = .ok (.pointer (some ⟨b, 0, none⟩)) W := by go_simp
theorem run_fW1 (W : World) (b : Nat) : (Instr.fieldAt 49 (.pointer (some ⟨b, 0, none⟩)) 1).run Tryz.prog W = .ok (.pointer (some ⟨b, 1, none⟩)) W := by go_simp
theorem run_lstr (W : World) (p : Addr) (z : ByteArray) (h : W.cell? p = some (.string z)) : (Instr.loadAt 9 (.pointer (some p))).run Tryz.prog W = .ok (.string z) W := by go_simp
theorem run_les (W : World) (p : Addr) (v : Value) (hv : ∃ a n c, v = .slice a n c) (h : W.cell? p = some v) : (Instr.loadAt 29 (.pointer (some p))).run Tryz.prog W = .ok v W := by
  obtain ⟨a, n, c, rfl⟩ := hv
  go_simp
theorem run_storeEs (W : World) (p : Addr) (a : Option Addr) (n c : Nat) (u : Value) (h : W.cell? p = some u) (hf : W.frozen? p = false) : (Instr.storeAt 29 (.pointer (some p)) (.slice a n c)).run Tryz.prog W = .ok () (W.setCell p (.slice a n c)) := by go_simp
theorem run_bEv (W : World) (e : Ev) : (Instr.build 54 #[(0, .int .i64 e.ses), (1, .int .i64 e.no), (2, .string e.path), (3, .int .i64 e.what), (4, .int .i64 e.when)]).run Tryz.prog W = .ok (evV e) W := by kernel_rfl
theorem run_rowE (W : World) (e : Ev) : (Instr.buildSlice 29 1 #[(0, evV e)]).run Tryz.prog W = .ok (.slice (some ⟨W.heap.size, 0, none⟩) 1 1) (W.alloc (.cells #[.int .i64 e.ses, .int .i64 e.no, .string e.path, .int .i64 e.what, .int .i64 e.when] 54)) := by unfold evV; go_simp
theorem run_addN (W : World) (x z : Int) (h : IntKind.i64.wrap (x + 1) = z) (s1 s2 : Operand) : (do eqGuard .add 3 s1 s2 (.int .i64 x) (.int .i64 1); binOp .add 3 (.int .i64 x) (.int .i64 1) : Sem Value).run Tryz.prog W = .ok (.int .i64 z) W := by go_simp
theorem look_none (W : World) (z : Int) (hz : InR z) : (Instr.lookup 30 (.map none) (.int .i64 z) false).run Tryz.prog W = .ok (.int .i64 0) W := by
  simpa using Maps.look_nil (w := W) false lawI und_mapN (zero_nu W) (keyI hz)
theorem look_bk {base bb : Nat} {vw ve vm : Value} {Ws : List Wa} {Es : List Ev} {k c : Nat} {N : Int → Option Int} {w : World} (h : BkW w base bb vw ve vm Ws Es k c N) (z : Int) (hz : InR z) : (Instr.lookup 30 vm (.int .i64 z) false).run Tryz.prog w = .ok (.int .i64 ((N z).getD 0)) w := by
  rcases h.last with ⟨rfl, rfl, _⟩ | ⟨mb, rfl, hm, _⟩
  · exact look_none w z hz
  · exact hm.look z hz
section
variable {P : Program} {Q : Exit → Act → World → Prop} {l : List Oper}
theorem gstep_look {i : Nat} {o : Oper} {a : Act} {w : World} {K : Act → World → Prop} (ho : l[i]? = some o) (hw : WantedIs l a o true) (t : TypeId) (s1 s2 : Operand) (hop : o.op = .lookup t s1 s2 false) (v1 v2 : Value) (he1 : a.eval s1 = v1) (he2 : a.eval s2 = v2) (v' : Value)
    (hr : (Instr.lookup t v1 v2 false).run P w = .ok v' w) (h : K (a.put o.dst v') w) : Step P l Q i K a w :=
  gstep_value ho hw v' w (by simp only [execOp, hop, he1, he2, Sem.run_bind, Sem.run_pure, hr, Result.andThen_ok]) h
theorem gstep_build5 {i : Nat} {o : Oper} {a : Act} {w : World} {K : Act → World → Prop} (ho : l[i]? = some o) (hw : WantedIs l a o true) (t : TypeId) (i1 i2 i3 i4 i5 : Nat) (s1 s2 s3 s4 s5 : Operand) (hop : o.op = .build t #[(i1, s1), (i2, s2), (i3, s3), (i4, s4), (i5, s5)]) (v1 v2 v3 v4 v5 : Value) (he1 : a.eval s1 = v1) (he2 : a.eval s2 = v2) (he3 : a.eval s3 = v3) (he4 : a.eval s4 = v4) (he5 : a.eval s5 = v5) (v' : Value)
    (hr : (Instr.build t #[(i1, v1), (i2, v2), (i3, v3), (i4, v4), (i5, v5)]).run P w = .ok v' w) (h : K (a.put o.dst v') w) : Step P l Q i K a w :=
  gstep_value ho hw v' w (by simp only [execOp, hop, List.map_toArray, List.map_cons, List.map_nil, he1, he2, he3, he4, he5, Sem.run_bind, Sem.run_pure, hr, Result.andThen_ok]) h
end
/-- The region that reckons the next number. -/
def FN7 (bb xb : Nat) (vm : Value) (ses n0 n1 : Int) : Nat → Value → Prop
  | 0, v => v = .pointer (some ⟨bb, 0, none⟩)
  | 1, v => v = .pointer (some ⟨bb, 0, none⟩)
  | 2, v => v = .pointer (some ⟨bb, 2, none⟩)
  | 3, v => v = vm
  | 4, v => v = .pointer (some ⟨xb, 0, none⟩)
  | 5, v => v = .int .i64 ses
  | 6, v => v = .int .i64 n0
  | 7, v => v = .int .i64 n1
  | _, _ => True
/-- The region that adds the event. -/
def FN8 (bb xb : Nat) (ve : Value) (e : Ev) : Nat → Value → Prop
  | 0, v => v = .pointer (some ⟨bb, 0, none⟩)
  | 1, v => v = .pointer (some ⟨bb, 0, none⟩)
  | 2, v => v = .pointer (some ⟨bb, 0, none⟩)
  | 3, v => v = .pointer (some ⟨bb, 1, none⟩)
  | 4, v => v = ve
  | 5, v => v = .pointer (some ⟨xb, 0, none⟩)
  | 6, v => v = .int .i64 e.ses
  | 7, v => v = .int .i64 e.no
  | 8, v => v = .pointer (some ⟨xb, 1, none⟩)
  | 9, v => v = .string e.path
  | 10, v => v = .int .i64 e.what
  | 11, v => v = .int .i64 e.when
  | 12, v => v = evV e
  | 15, v => v = .pointer (some ⟨bb, 0, none⟩)
  | 16, v => v = .pointer (some ⟨bb, 1, none⟩)
  | _, _ => True
section
variable {P : Program} {Q : Exit → Act → World → Prop} {l : List Oper}
theorem gstep_append_at {i : Nat} {o : Oper} {a : Act} {w : World} {K : Act → World → Prop} (ho : l[i]? = some o) (hw : WantedIs l a o true) (s y : Operand) (t : TypeId) (hop : o.op = .call { callee := .builtin .append, args := #[s, y], argTypes := #[t, t] })
    (base : Nat) (e : TypeId) (i0 : TypeInfo) (z : Value) (size bytes : Nat) (ht : P.underlying t = some (.slice e)) (hi : P.info? e = some i0) (hz : i0.zero = some z)
    (hsize : i0.size = size) (hby : i0.bytes = bytes) (hzs : z.cells.size = size) (hsz : 0 < size)
    (v : Value) (n : Nat) (xs : List Value) (he : a.eval s = v) (hown : w.ownsRow base e size v n xs)
    (ad : Addr) (m c : Nat) (news : List Value) (hx : a.eval y = .slice (some ad) m c) (hl : news.length = m * size) (hnews : ∀ j u, news[j]? = some u → w.cell? (ad.add j) = some u) (h1 : ∀ u ∈ news, u.oneCell' = true)
    (h63 : n + m ≤ maxLen) (hbytes : (n + m) * bytes ≤ 140737488355328) (hbase : base ≤ w.heap.size)
    (h : ∀ v' w', w'.ownsRow base e size v' (n + m) (xs ++ news) → w.grownBy w' v.ownBlock → (v'.ownBlock = v.ownBlock ∨ v'.ownBlock = some w.heap.size) → K (a.put o.dst v') w') : Step P l Q i K a w := by
  obtain ⟨v', w', hr, h2, h3, _, h4⟩ := run_append_own_at (P := P) w base t o.type e i0 z size bytes ht hi hz hsize hby hzs hsz v n xs hown ad m c news hl hnews h1 h63 hbytes hbase
  refine gstep_value ho hw v' w' ?_ (h v' w' h2 h3 h4)
  simp only [execOp, hop, resolve, invoke, builtin, Sem.run_bind, Sem.run_pure, Result.andThen_ok, List.map_toArray, List.map_cons, List.map_nil, he, hx, hr]
end
/-- What has run of the region that adds the event. -/
structure JN8 (wd : World) (base : Nat) (ve : Value) (Es : List Ev) (e : Ev) (b : Nat → Bool) (x : Nat → Value) (w : World) : Prop where
  pre : b 14 = false → Below wd.heap.size wd w
  up : b 14 = true → b 4 = true ∧ b 6 = true ∧ b 9 = true ∧ b 13 = true
  u13 : b 13 = true → b 6 = true ∧ b 9 = true
  r13 : b 13 = true → b 14 = false → ∃ g, x 13 = .slice (some ⟨g, 0, none⟩) 1 1 ∧ w.heap[g]? = some (.cells #[.int .i64 e.ses, .int .i64 e.no, .string e.path, .int .i64 e.what, .int .i64 e.when] 54 (0, 0))
  u12 : b 12 = true → b 6 = true ∧ b 9 = true
  post : b 14 = true → ERow w base (x 14) (Es ++ [e]) ∧ wd.grownBy w ve.ownBlock ∧ ((x 14).ownBlock = ve.ownBlock ∨ ∃ q, (x 14).ownBlock = some q ∧ wd.heap.size ≤ q)
section
variable {wd w w' : World} {base : Nat} {ve : Value} {Es : List Ev} {e : Ev} {b : Nat → Bool} {x : Nat → Value}
theorem JN8.n4 (h : JN8 wd base ve Es e b x w) (hb : b 4 = false) : b 14 = false := by cases q : b 14; rfl; have := (h.up q).1; rw [hb] at this; cases this
theorem JN8.n6 (h : JN8 wd base ve Es e b x w) (hb : b 6 = false) : b 14 = false := by cases q : b 14; rfl; have := (h.up q).2.1; rw [hb] at this; cases this
theorem JN8.n9 (h : JN8 wd base ve Es e b x w) (hb : b 9 = false) : b 14 = false := by cases q : b 14; rfl; have := (h.up q).2.2.1; rw [hb] at this; cases this
theorem JN8.n13 (h : JN8 wd base ve Es e b x w) (hb : b 13 = false) : b 14 = false := by cases q : b 14; rfl; have := (h.up q).2.2.2; rw [hb] at this; cases this
theorem JN8.pure {i : Nat} {v : Value} (h : JN8 wd base ve Es e b x w) (hi : ¬ 13 = i ∧ ¬ 14 = i) (h12 : i = 12 → b 6 = true ∧ b 9 = true) : JN8 wd base ve Es e (setB b i) (setX x i v) w := by
  obtain ⟨e13, e14⟩ := hi
  refine ⟨by rw [setB_ne e14]; exact h.pre, ?_, ?_, ?_, ?_, ?_⟩
  · rw [setB_ne e14]; exact fun hb => ⟨setB_up (h.up hb).1, setB_up (h.up hb).2.1, setB_up (h.up hb).2.2.1, setB_up (h.up hb).2.2.2⟩
  · rw [setB_ne e13]; exact fun hb => ⟨setB_up (h.u13 hb).1, setB_up (h.u13 hb).2⟩
  · rw [setB_ne e13, setB_ne e14, setX_ne e13]; exact h.r13
  · intro hb
    by_cases q : i = 12
    · exact ⟨setB_up (h12 q).1, setB_up (h12 q).2⟩
    · rw [setB_ne (fun e => q e.symm)] at hb; exact ⟨setB_up (h.u12 hb).1, setB_up (h.u12 hb).2⟩
  · rw [setB_ne e14, setX_ne e14]; exact h.post
theorem JN8.s13 (h : JN8 wd base ve Es e b x w) (h12 : b 12 = true) (hb : b 13 = false) : JN8 wd base ve Es e (setB b 13) (setX x 13 (.slice (some ⟨w.heap.size, 0, none⟩) 1 1)) (w.alloc (.cells #[.int .i64 e.ses, .int .i64 e.no, .string e.path, .int .i64 e.what, .int .i64 e.when] 54)) := by
  have h14 := h.n13 hb
  have hp := h.pre h14
  refine ⟨fun _ => hp.alloc hp.size _, ?_, ?_, ?_, ?_, ?_⟩
  · rw [setB_ne (by decide), h14]; intro q; cases q
  · intro _; exact ⟨setB_up (h.u12 h12).1, setB_up (h.u12 h12).2⟩
  · intro _ _; exact ⟨w.heap.size, setX_same _ _ _, heap_alloc_new w _⟩
  · rw [setB_ne (by decide)]; exact fun hb => ⟨setB_up (h.u12 hb).1, setB_up (h.u12 hb).2⟩
  · rw [setB_ne (by decide), h14]; intro q; cases q
theorem JN8.s14 {v : Value} (h : JN8 wd base ve Es e b x w) (h4 : b 4 = true) (h13 : b 13 = true) (h14 : b 14 = false) (hr : ERow w' base v (Es ++ [e])) (hg : w.grownBy w' ve.ownBlock) (hq : v.ownBlock = ve.ownBlock ∨ v.ownBlock = some w.heap.size) : JN8 wd base ve Es e (setB b 14) (setX x 14 v) w' := by
  refine ⟨fun q => (by rw [setB_same] at q; cases q), fun _ => ⟨setB_up h4, setB_up (h.u13 h13).1, setB_up (h.u13 h13).2, setB_up h13⟩, ?_, fun _ q => (by rw [setB_same] at q; cases q), ?_, fun _ => ⟨by rw [setX_same]; exact hr, grownBy_trans (below_grownBy (h.pre h14) _) hg, by rw [setX_same]; exact hq.imp id (fun e => ⟨_, e, (h.pre h14).size⟩)⟩⟩
  · rw [setB_ne (by decide)]; exact fun hb => ⟨setB_up (h.u13 hb).1, setB_up (h.u13 hb).2⟩
  · rw [setB_ne (by decide)]; exact fun hb => ⟨setB_up (h.u12 hb).1, setB_up (h.u12 hb).2⟩
end
end Go.Proofs.YtbbdokfankgllaaGreatDoor
