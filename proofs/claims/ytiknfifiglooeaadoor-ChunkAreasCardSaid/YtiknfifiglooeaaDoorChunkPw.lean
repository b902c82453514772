/- Law 7's shots and acts in their boxes, beside a store and its device. No conditions beyond those in each statement. -/
import Derived.Test.YtiknfifiglooeaaDoorChunkHo
import Derived.Test.YtiknfifiglooeaaDoorChunkQ
import Derived.Test.YtiknfifiglooeaaDoorChunkAc
namespace Go.Proofs.YtiknfifiglooeaaDoor
open Go Go.RowKit Go.Proofs.Tryd
set_option linter.unusedVariables false
set_option maxRecDepth 100000

section
variable {P : Program} {Q : Exit → Act → World → Prop} {l : List Oper}
theorem wpList_load_run7 {w : World} {ops : Array Oper} {rest : List Oper} {o : Oper} {a : Act} {t : TypeId} {x : Operand} {v v' : Value} (hr : (Instr.loadAt t v).run P w = .ok v' w) (hgd : o.guard = none) (ho : o.op = .load t x) (hx : a.eval x = v)
    (h : wpList P ops Q rest (a.put o.dst v') w) : wpList P ops Q (o :: rest) a w :=
  wpList_plain hgd fun _ hK => by
    unfold Oper.wp execOp
    simp only [ho, hx, Sem.run_bind, Sem.run_pure, Result.andThen_ok, hr]
    exact hK _ _ h
theorem wpList_store_run7 {w w' : World} {ops : Array Oper} {rest : List Oper} {o : Oper} {a : Act} {t : TypeId} {x y : Operand} {v1 v2 : Value} (hr : (Instr.storeAt t v1 v2).run P w = .ok () w') (hgd : o.guard = none) (ho : o.op = .store t x y) (hx : a.eval x = v1) (hy : a.eval y = v2)
    (h : wpList P ops Q rest (a.put o.dst undef) w') : wpList P ops Q (o :: rest) a w :=
  wpList_plain hgd fun _ hK => by
    unfold Oper.wp execOp
    simp only [ho, hx, hy, Sem.run_bind, Sem.run_pure, Result.andThen_ok, hr]
    exact hK _ _ h
end
def setSh (w : World) (b : Nat) (i t : Int) (s : ByteArray) : World := ((w.setCell ⟨b, 0, none⟩ (.int .i64 i)).setCell ⟨b, 1, none⟩ (.int .i64 t)).setCell ⟨b, 2, none⟩ (.string s)
section
variable {w x : World} {b : Nat} {i t i' t' : Int} {s s' : ByteArray}
theorem ShB.lt (h : ShB w b i t s) : b < w.heap.size := lt_of_block h
theorem ShB.frees (h : ShB w b i t s) : w.frozen? ⟨b, 0, none⟩ = false ∧ w.frozen? ⟨b, 1, none⟩ = false ∧ w.frozen? ⟨b, 2, none⟩ = false := ⟨free_of h, free_of h, free_of h⟩
theorem ShB.set (h : ShB w b i t s) (i' t' : Int) (s' : ByteArray) : ShB (setSh w b i' t' s') b i' t' s' := by
  have h0 : (w.setCell ⟨b, 0, none⟩ (.int .i64 i')).heap[b]? = some (.cells #[.int .i64 i', .int .i64 t, .string s] 80 (0, 0)) := block_setCell (i := 0) h
  have h1 : ((w.setCell ⟨b, 0, none⟩ (.int .i64 i')).setCell ⟨b, 1, none⟩ (.int .i64 t')).heap[b]? = some (.cells #[.int .i64 i', .int .i64 t', .string s] 80 (0, 0)) := block_setCell (i := 1) h0
  exact block_setCell (i := 2) h1
theorem setSh_other {k : Nat} (h : k ≠ b) : (setSh w b i t s).heap[k]? = w.heap[k]? := (block_setCell_other h).trans ((block_setCell_other h).trans (block_setCell_other h))
theorem below_setSh {m : Nat} {a w : World} {b : Nat} (h : Below m a w) (hb : m ≤ b) (i t : Int) (s : ByteArray) : Below m a (setSh w b i t s) := ((h.setCell (p := ⟨b, 0, none⟩) hb _).setCell (p := ⟨b, 1, none⟩) hb _).setCell (p := ⟨b, 2, none⟩) hb _
theorem setSh_size : (setSh w b i t s).heap.size = w.heap.size := by unfold setSh; simp
theorem run_stSh (h : ShB w b i t s) (i' t' : Int) (s' : ByteArray) : (Instr.storeAt 80 (.pointer (some ⟨b, 0, none⟩)) (.agg #[.int .i64 i', .int .i64 t', .string s'])).run Tryd.prog w = .ok () (setSh w b i' t' s') := by
  obtain ⟨c0, c1, c2⟩ := h.cells
  obtain ⟨f0, f1, f2⟩ := h.frees
  unfold setSh
  go_simp
theorem run_ldSh (h : ShB w b i t s) : (Instr.loadAt 80 (.pointer (some ⟨b, 0, none⟩))).run Tryd.prog w = .ok (.agg #[.int .i64 i, .int .i64 t, .string s]) w := by
  obtain ⟨c0, c1, c2⟩ := h.cells
  go_simp
theorem ShB.keep {E : Nat → Prop} (h : ShB w b i t s) (k : Kept E w x) (hb : E b) : ShB x b i t s := (k b hb).trans h
end
section
variable {m : Nat} {E : Nat → Prop} {w x : World} {b B : Nat} {base : Int} {l : Ls} {sv : Value} {area : Int} {D : Dv}
theorem StoW.grow (h : StoW m E w b B base l sv area D) (hb : Below w.heap.size w x) : StoW m (fun k => E k ∨ (w.heap.size ≤ k ∧ k < x.heap.size)) x b B base l sv area D :=
  { h.below hb with dev := h.dev.growAllC hb, eb := .inl h.eb, own := fun g hg => ⟨.inl (h.own g hg).1, (h.own g hg).2⟩ }
theorem StoW.ne_shot (h : StoW m E w b B base l sv area D) {c : Nat} {i t : Int} {s : ByteArray} (hc : ShB w c i t s) : c ≠ b := by
  rintro rfl
  have h2 := h.st
  unfold CsB at h2
  unfold ShB at hc
  rw [hc] at h2
  simp at h2
/-- A shot stored beside a store. -/
theorem StoW.shot (h : StoW m E w b B base l sv area D) {c : Nat} {i t : Int} {s : ByteArray} (hc : ShB w c i t s) (hE : E c) (i' t' : Int) (s' : ByteArray) : StoW m E (setSh w c i' t' s') b B base l sv area D := by
  have hne := h.ne_shot hc
  have hst : CsB (setSh w c i' t' s') b B base l.index l.term l.bytes sv area := (setSh_other (Ne.symm hne)).trans h.st
  have hsm : SmR (setSh w c i' t' s') sv l.sums := by
    obtain ⟨a, cap, hv, hn, hh, hz⟩ := h.sums
    refine ⟨a, cap, hv, hn, ?_, hz⟩
    by_cases h0 : l.sums.length = 0
    · exact .inl h0
    · obtain ⟨g, ha, hg, hcell⟩ := hh.resolve_left h0
      have hgc : g ≠ c := by
        rintro rfl
        have h1 := hcell 0 (by omega)
        rw [hc.cells.1] at h1
        simp at h1
      exact .inr ⟨g, ha, by rw [setSh_size]; exact hg, fun j hj => by
        have := hcell j hj
        simp only [World.cell?, setSh_other hgc] at this ⊢
        exact this⟩
  exact ⟨((h.dev.setCellC (p := ⟨c, 0, none⟩) hE _).setCellC (p := ⟨c, 1, none⟩) hE _).setCellC (p := ⟨c, 2, none⟩) hE _, hst, h.eb, h.mb, hsm, h.own, h.bytes, h.base, h.area⟩
end
/-- Put, the power failing at some time, or not. -/
theorem st_put_power {m : Nat} {E : Nat → Prop} {w : World} {b B M base : Nat} {l : Ls} {sv : Value} {ar : Nat} {D : Dv} (i t : Int) (s : ByteArray) (h : StoW m E w b B (base : Int) l sv (ar : Int) D) (hN : Neat D.bs) (hl : D.bs.length = M) (hr : base + 132 ≤ M) (hM : M ≤ 4096) (har : ar ≤ 1) (hw : D.writes = 0) (hg : (ofL i t s).Good) (hi : l.index < i) (hm : m ≤ w.heap.size) (ht : ∀ x, Below m w x → Tabs x) :
    Calls Tryd.prog 36 #[.pointer (some ⟨b, 0, none⟩), .int .i64 i, .int .i64 t, .string s] w fun e w' => ∃ (c : Int) (E' : Nat → Prop) (DQ : Dv), e = .returned (.int .i64 c) ∧ (c = 0 ∨ c = 5) ∧ (∀ j, E j → E' j) ∧ DevW m E' w' B DQ ∧ Below m w w' ∧ Kept (fun j => E j ∧ j ≠ b) w w' ∧
      DQ.writes ≤ 1073741824 ∧ (∀ b ∈ DQ.bs, b.lost = false) ∧ DQ.bs.length = M ∧ (c = 0 → Neat DQ.bs ∧ contB DQ.bs = putC (contB D.bs) (base + nxtA l ar * 66) i t s) ∧ ∀ zs, PutX (contB D.bs) (contB (DQ.bs.map (Blk.crash zs))) (base + nxtA l ar * 66) i t s := by
  have hna := nxtA_le l ar
  have hsz := good_size hg
  have hcn := cutN_le.2 hsz
  obtain ⟨p1, p2, p3, p4⟩ := put_power (D := D) (base := (base : Int)) (i0 := l.index) (area := (ar : Int)) (a := base + nxtA l ar * 66) hN hg (by rw [nxtA_eq har]; omega) (by omega) (by omega)
  have hbad : (ofL i t s).bad l.index = false := by
    unfold Ls.bad
    have := hg.valid
    rw [this]
    simp
    show l.index < i
    exact hi
  have hwr := putP_writes D (base : Int) l.index (ar : Int) i t s
  generalize hP : putP D (base : Int) l.index (ar : Int) i t s = P at p1 p2 p3 p4 hwr
  obtain ⟨i0, t0, n0, ss0⟩ := l
  simp only at hP
  refine (cput_any (ss0 := ss0) i t s (by omega) h hm ht (by rw [hw]; decide)).mono ?_
  rintro e w' ⟨c, rfl, hp, hb, hk⟩
  rcases hp with ⟨h1, _⟩ | ⟨_, rfl, E', hE, hp⟩
  · rw [hbad] at h1; cases h1
  simp only [hP] at hp ⊢
  have hd : DevW m E' w' B P.2 := by
    rcases hp with ⟨_, sv', hp⟩ | ⟨_, hp⟩
    · exact hp.dev
    · exact hp.dev
  refine ⟨P.1, E', P.2, rfl, p1.imp (fun x => x.1) id, hE, hd, hb, hk, by omega, p3, p2.trans hl, fun h0 => ?_, p4⟩
  rcases p1 with ⟨_, x, y⟩ | x
  · exact ⟨x, y⟩
  · rw [h0] at x; cases x
theorem holds_has {m : Nat} {E : Nat → Prop} {w : World} {b B M base : Nat} {l : Ls} {sv : Value} {ar : Nat} {D : Dv} {i t : Int} {s : ByteArray} (h : StC m E w b B M base l sv ar D) (hh : Has (cont D) base l ar i t s) (ht : ∀ x, Below w.heap.size w x → Tabs x) :
    Calls Tryd.prog 38 #[.pointer (some ⟨b, 0, none⟩), .agg #[.int .i64 i, .int .i64 t, .string s]] w fun e w' => e = .returned (.bool true) ∧ Below w.heap.size w w' := by
  rcases hh with ⟨rfl, rfl, _, _⟩ | ⟨rfl, hh⟩
  · exact holds_none t s h
  · exact holds_snap h hh.good hh.ck ht
/-- An act's box. -/
def ActB7 (w : World) (b : Nat) (q : Aq7) : Prop := w.heap[b]? = some (.cells #[.int .i64 q.k, .int .i64 q.n, .int .i64 q.step, .int .i64 q.fall, q.fv] 82 (0, 0))
section
variable {w x : World} {b : Nat} {q : Aq7}
theorem ActB7.below (h : ActB7 w b q) (hb : Below w.heap.size w x) : ActB7 x b q := (hb.block b (lt_of_block h)).trans h
theorem ActB7.keep {E : Nat → Prop} (h : ActB7 w b q) (k : Kept E w x) (hb : E b) : ActB7 x b q := (k b hb).trans h
theorem ActB7.cells (h : ActB7 w b q) : w.cell? ⟨b, 0, none⟩ = some (.int .i64 q.k) ∧ w.cell? ⟨b, 1, none⟩ = some (.int .i64 q.n) ∧ w.cell? ⟨b, 2, none⟩ = some (.int .i64 q.step) ∧ w.cell? ⟨b, 3, none⟩ = some (.int .i64 q.fall) ∧ w.cell? ⟨b, 4, none⟩ = some q.fv := ⟨cell_of h rfl, cell_of h rfl, cell_of h rfl, cell_of h rfl, cell_of h rfl⟩
theorem ActB7.new (w : World) (q : Aq7) : ActB7 (w.alloc (.cells #[.int .i64 q.k, .int .i64 q.n, .int .i64 q.step, .int .i64 q.fall, q.fv] 82)) w.heap.size q := heap_alloc_new w _
theorem ActB7.ne_shot (h : ActB7 w b q) {c : Nat} {i t : Int} {s : ByteArray} (hc : ShB w c i t s) : b ≠ c := by
  rintro rfl
  unfold ActB7 at h
  unfold ShB at hc
  rw [hc] at h
  simp at h
end
theorem devw_down {n : Nat} {E : Nat → Prop} {w : World} {B : Nat} {D : Dv} (h : DevW n E w B D) :
    Calls Tryd.prog 37 #[.pointer (some ⟨B, 0, none⟩)] w fun e w' => e = .returned (.bool D.down) ∧ w = w' := by
  obtain ⟨S, h, _⟩ := h
  exact down_any h
section
variable {Q : Exit → Act → World → Prop} {l : List Oper}
theorem gstep_mkS {i : Nat} {o : Oper} {a : Act} {w : World} {K : Act → World → Prop} (ho : l[i]? = some o) (hw : WantedIs l a o true) (s0 s1 s2 : Operand) (hop : o.op = .build 80 #[(0, s0), (1, s1), (2, s2)]) (k x : Int) (d : ByteArray) (h0 : a.eval s0 = .int .i64 k) (h1 : a.eval s1 = .int .i64 x) (h2 : a.eval s2 = .string d)
    (h : K (a.put o.dst (.agg #[.int .i64 k, .int .i64 x, .string d])) w) : Step Tryd.prog l Q i K a w :=
  gstep_value ho hw _ w (by simp only [execOp, hop, List.map_toArray, List.map_cons, List.map_nil, h0, h1, h2]; go_simp) h
end
end Go.Proofs.YtiknfifiglooeaaDoor
