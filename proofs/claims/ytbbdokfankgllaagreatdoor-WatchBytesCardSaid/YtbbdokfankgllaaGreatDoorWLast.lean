/- setLast, Drop. No conditions beyond those in each statement. -/
import Derived.Test.YtbbdokfankgllaaGreatDoorWTrig
import Derived.Shelf.SlMaps.Clone
namespace Go.Proofs.YtbbdokfankgllaaGreatDoor
open Go.RowKit Go.Maps Go.Shelf
set_option linter.unusedVariables false
set_option maxRecDepth 100000

section
variable {w w' : World} {base bb : Nat} {vw ve vm : Value} {Ws : List Wa} {Es : List Ev} {k c : Nat} {N : Int → Option Int}
theorem BkW.turnM {mb k' c' : Nat} {N' : Int → Option Int} (h : BkW w base bb vw ve (.map (some mb)) Ws Es k c N) (hg : w.grownBy w' (some mb)) (hm : MapN w' mb k' c' N') : BkW w' base bb vw ve (.map (some mb)) Ws Es k' c' N' := by
  rcases h.last with ⟨h1, _⟩ | ⟨mb', h1, h2, h3⟩
  · cases h1
  · injection h1 with h1
    injection h1 with h1
    subst h1
    refine ⟨(hg.block bb h.lt (fun e => map_ne h.box h2 (Option.some.inj e))).trans h.box, ?_, ?_, .inr ⟨mb, rfl, hm, h3⟩, h.lo.1, Nat.le_trans h.lo.2 hg.size⟩
    · exact h.ws.kept hg (fun g e e2 => by
        obtain ⟨c1, q1, _⟩ := row_own h.ws e
        exact map_ne q1 h2 (Option.some.inj e2).symm)
    · exact h.es.kept hg (fun g e e2 => by
        obtain ⟨c1, q1, _⟩ := row_own h.es e
        exact map_ne q1 h2 (Option.some.inj e2).symm)
theorem BkW.mono {k' : Nat} (h : BkW w base bb vw ve vm Ws Es k c N) (hk : k ≤ k') : BkW w base bb vw ve vm Ws Es k' c N :=
  ⟨h.box, h.ws, h.es, h.last.imp id (fun ⟨mb, h1, h2, h3⟩ => ⟨mb, h1, h2.mono hk, h3⟩), h.lo⟩
/-- The first number of a book: a map is made. -/
theorem BkW.madeM (h : BkW w base bb vw ve (.map none) Ws Es k c N) : BkW ((w.setCell ⟨bb, 2, none⟩ (.map (some w.heap.size))).alloc (.map #[] 0)) base bb vw ve (.map (some w.heap.size)) Ws Es 0 0 (fun _ => none) ∧ Below base w ((w.setCell ⟨bb, 2, none⟩ (.map (some w.heap.size))).alloc (.map #[] 0)) ∧ MapN ((w.setCell ⟨bb, 2, none⟩ (.map (some w.heap.size))).alloc (.map #[] 0)) w.heap.size 0 0 (fun _ => none) := by
  have hg := set_grown w bb 2 (.map (some w.heap.size))
  have hbox := bset (i := 2) (u := .map (some w.heap.size)) h.box
  have hsz : (w.setCell ⟨bb, 2, none⟩ (.map (some w.heap.size))).heap.size = w.heap.size := by simp
  have q0 : Below base w (w.setCell ⟨bb, 2, none⟩ (.map (some w.heap.size))) := (Below.refl base w).setCell (p := ⟨bb, 2, none⟩) h.lo.1 _
  have hw := h.ws.kept hg (fun g e e2 => by
      obtain ⟨c1, q1, _⟩ := row_own h.ws e
      exact cells_ne q1 h.box (by decide) (Option.some.inj e2).symm)
  have he := h.es.kept hg (fun g e e2 => by
      obtain ⟨c1, q1, _⟩ := row_own h.es e
      exact cells_ne q1 h.box (by decide) (Option.some.inj e2).symm)
  have hm := MapN.new (w.setCell ⟨bb, 2, none⟩ (.map (some w.heap.size)))
  have hlo := h.lo
  have hbl := h.lt
  generalize w.setCell ⟨bb, 2, none⟩ (.map (some w.heap.size)) = W0 at *
  rw [hsz] at hm
  have b1 := (Below.refl W0.heap.size W0).alloc (Nat.le_refl _) (.map #[] 0)
  have hbox1 := (b1.block bb (by omega)).trans hbox
  refine ⟨⟨by simpa using hbox1, hw.below b1, he.below b1, .inr ⟨w.heap.size, rfl, hm, hlo.2⟩, hlo.1, Nat.le_trans hlo.2 (by have := b1.size; omega)⟩, q0.trans (b1.mono (by omega)), hm⟩
theorem BkW.made_frm (h : BkW w base bb vw ve (.map none) Ws Es k c N) : FrM w ((w.setCell ⟨bb, 2, none⟩ (.map (some w.heap.size))).alloc (.map #[] 0)) bb vw ve (.map none) vw ve (.map (some w.heap.size)) := by
  have hs := set_grown w bb 2 (.map (some w.heap.size))
  have hsz : (w.setCell ⟨bb, 2, none⟩ (.map (some w.heap.size))).heap.size = w.heap.size := by simp
  have ha := (Below.refl _ (w.setCell ⟨bb, 2, none⟩ (.map (some w.heap.size)))).alloc (Nat.le_refl _) (.map #[] 0)
  refine ⟨ha.os.trans hs.os, ha.tape.trans hs.tape, ha.output.trans hs.output, Nat.le_trans hs.size ha.size, fun b hb hn => ?_, fun b hb => ?_⟩
  · exact (ha.block b (by omega)).trans (hs.block b hb (fun e => hn (.inl (Option.some.inj e))))
  · rcases hb with e | e | e | e
    · exact .inl (.inl e)
    · exact .inl (.inr (.inl e))
    · exact .inl (.inr (.inr (.inl e)))
    · injection e with e
      exact .inr (Nat.le_of_eq (Option.some.inj e))
end
set_option maxHeartbeats 8000000 in
theorem setl_some (base bb mb : Nat) (vw ve : Value) (Ws : List Wa) (Es : List Ev) (k c : Nat) (N : Int → Option Int) (s no : Int) (w : World) (h : BkW w base bb vw ve (.map (some mb)) Ws Es k c N) (hs : InR s) (hk : k < 100000000) :
    Calls Tryz.prog 44 #[.pointer (some ⟨bb, 0, none⟩), .int .i64 s, .int .i64 no] w fun e w' => e = .returned (.tuple #[]) ∧ ∃ c', BkW w' base bb vw ve (.map (some mb)) Ws Es (k + 1) c' (updN N s (some no)) ∧ Below base w w' ∧ (∀ b cs t, w.heap[b]? = some (.cells cs t (0, 0)) → b ≠ bb → w'.heap[b]? = some (.cells cs t (0, 0))) ∧ FrM w w' bb vw ve (.map (some mb)) vw ve (.map (some mb)) := by
  have hmap : MapN w mb k c N ∧ base ≤ mb := by
    rcases h.last with ⟨h1, _⟩ | ⟨mb', h1, h2, h3⟩
    · cases h1
    · injection h1 with h1; injection h1 with h1; subst h1; exact ⟨h2, h3⟩
  obtain ⟨w', hrun, hm, hg⟩ := hmap.1.store (by omega) s hs no
  have HK := Lib.hid (h.turnM hg hm)
  have HB : Hid (Below base w w') := Lib.hid ((Below.refl base w).grown hg h.lo.2 (fun q hq => by cases hq; exact hmap.2))
  have HKP : Hid (∀ b cs t, w.heap[b]? = some (.cells cs t (0, 0)) → b ≠ bb → w'.heap[b]? = some (.cells cs t (0, 0))) := Lib.hid fun b cs t hb _ => (hg.block b (Array.getElem?_eq_some_iff.1 hb).1 (fun e => map_ne hb hmap.1 (Option.some.inj e))).trans hb
  have HFR : Hid (FrM w w' bb vw ve (.map (some mb)) vw ve (.map (some mb))) := Lib.hid (FrM.turn hg (.inr (.inr (.inr rfl))))
  have x2 := h.c2
  clear h hmap hm hg
  have hqm : ∀ (W : World) (p : Option Nat), (binOp .eql 30 (.map p) (.map none)).run Tryz.prog W = .ok (.bool p.isNone) W := fun W p => run_eql_map_nil_sl W _ _ _ p und_mapN
  go_enter Tryz.func44, Tryz.ntmps44
  go_wp2_with fail
  go_end0
  exact ⟨rfl, _, HK.out, HB.out, HKP.out, HFR.out⟩
set_option maxHeartbeats 8000000 in
theorem setl_frm (base bb : Nat) (vw ve vm : Value) (Ws : List Wa) (Es : List Ev) (k c : Nat) (N : Int → Option Int) (s no : Int) (w : World) (h : BkW w base bb vw ve vm Ws Es k c N) (hs : InR s) (hk : k < 100000000) :
    Calls Tryz.prog 44 #[.pointer (some ⟨bb, 0, none⟩), .int .i64 s, .int .i64 no] w fun e w' => e = .returned (.tuple #[]) ∧ ∃ vm' c', BkW w' base bb vw ve vm' Ws Es (k + 1) c' (updN N s (some no)) ∧ Below base w w' ∧ (∀ b cs t, w.heap[b]? = some (.cells cs t (0, 0)) → b ≠ bb → w'.heap[b]? = some (.cells cs t (0, 0))) ∧ FrM w w' bb vw ve vm vw ve vm' := by
  rcases h.last with ⟨rfl, rfl, rfl⟩ | ⟨mb, rfl, _, _⟩
  · obtain ⟨h1, b1, hmap⟩ := h.madeM
    have hmm := @run_makeMap Tryz.prog
    obtain ⟨w', hrun, hm, hg⟩ := hmap.store (by omega) s hs no
    have HK := Lib.hid (h1.turnM hg hm)
    have HB : Hid (Below base w w') := Lib.hid (b1.grown hg h1.lo.2 (fun q hq => by cases hq; exact h.lo.2))
    have HKP : Hid (∀ b cs t, w.heap[b]? = some (.cells cs t (0, 0)) → b ≠ bb → w'.heap[b]? = some (.cells cs t (0, 0))) := Lib.hid fun b cs t hb hne => by
      have hlt := (Array.getElem?_eq_some_iff.1 hb).1
      have q1 := (Below.heap_setCell w ⟨bb, 2, none⟩ (.map (some w.heap.size)) b hne).trans hb
      have hsz : (w.setCell ⟨bb, 2, none⟩ (.map (some w.heap.size))).heap.size = w.heap.size := by simp
      have q2 := (Below.heap_alloc (w.setCell ⟨bb, 2, none⟩ (.map (some w.heap.size))) (.map #[] 0) b (by omega)).trans q1
      exact (hg.block b (Array.getElem?_eq_some_iff.1 q2).1 (fun e => by have := Option.some.inj e; omega)).trans q2
    have HFR : Hid (FrM w w' bb vw ve (.map none) vw ve (.map (some w.heap.size))) := Lib.hid (h.made_frm.trans (FrM.turn hg (.inr (.inr (.inr rfl)))))
    have x2 := h.c2
    have f2 := h.frz 2
    have hbw := h.lt
    have h1c := h1.c2
    obtain ⟨W1, hW1⟩ : ∃ W1, W1 = (w.setCell ⟨bb, 2, none⟩ (.map (some w.heap.size))).alloc (.map #[] 0) := ⟨_, rfl⟩
    rw [← hW1] at h1c hrun
    have HW1 := Lib.hid hW1
    clear hW1
    clear h h1 hmap hm hg b1
    have hqm : ∀ (W : World) (p : Option Nat), (binOp .eql 30 (.map p) (.map none)).run Tryz.prog W = .ok (.bool p.isNone) W := fun W p => run_eql_map_nil_sl W _ _ _ p und_mapN
    go_enter Tryz.func44, Tryz.ntmps44
    go_upto_region 2 with fail
    rw [← HW1.out]
    go_wp2_with fail
    go_end0
    exact ⟨rfl, _, _, HK.out.mono (by omega), HB.out, HKP.out, HFR.out⟩
  · refine (setl_some base bb mb vw ve Ws Es k c N s no w h hs hk).mono ?_
    rintro e w' ⟨rfl, c', h1, h2, h3⟩
    exact ⟨rfl, _, _, h1, h2, h3⟩
theorem setl_any (base bb : Nat) (vw ve vm : Value) (Ws : List Wa) (Es : List Ev) (k c : Nat) (N : Int → Option Int) (s no : Int) (w : World) (h : BkW w base bb vw ve vm Ws Es k c N) (hs : InR s) (hk : k < 100000000) :
    Calls Tryz.prog 44 #[.pointer (some ⟨bb, 0, none⟩), .int .i64 s, .int .i64 no] w fun e w' => e = .returned (.tuple #[]) ∧ ∃ vm' c', BkW w' base bb vw ve vm' Ws Es (k + 1) c' (updN N s (some no)) ∧ Below base w w' ∧ ∀ b cs t, w.heap[b]? = some (.cells cs t (0, 0)) → b ≠ bb → w'.heap[b]? = some (.cells cs t (0, 0)) :=
  (setl_frm base bb vw ve vm Ws Es k c N s no w h hs hk).mono fun e w' ⟨h1, a, b, h2, h3, h4, _⟩ => ⟨h1, a, b, h2, h3, h4⟩
theorem run_bkF2 (W : World) (b : Nat) : (Instr.fieldAt 56 (.pointer (some ⟨b, 0, none⟩)) 2).run Tryz.prog W = .ok (.pointer (some ⟨b, 2, none⟩)) W := by go_simp
theorem run_lmp (W : World) (p : Addr) (v : Value) (hv : ∃ q, v = .map q) (h : W.cell? p = some v) : (Instr.loadAt 30 (.pointer (some p))).run Tryz.prog W = .ok v W := by
  obtain ⟨q, rfl⟩ := hv
  go_simp
theorem run_lint (W : World) (p : Addr) (z : Int) (h : W.cell? p = some (.int .i64 z)) : (Instr.loadAt 3 (.pointer (some p))).run Tryz.prog W = .ok (.int .i64 z) W := by go_simp
theorem gstep_del {P : Program} {Q : Exit → Act → World → Prop} {l : List Oper} {i : Nat} {o : Oper} {a : Act} {w : World} {K : Act → World → Prop} (ho : l[i]? = some o) (hw : WantedIs l a o true) (s1 s2 : Operand) (t u : TypeId) (hop : o.op = .call { callee := .builtin .delete, args := #[s1, s2], argTypes := #[t, u] }) (v1 v2 : Value) (he1 : a.eval s1 = v1) (he2 : a.eval s2 = v2) (w' : World)
    (hr : (Builtin.delete_ #[t, u] o.type #[v1, v2]).run P w = .ok (.tuple #[]) w') (h : K (a.put o.dst (.tuple #[])) w') : Step P l Q i K a w :=
  gstep_value ho hw _ w' (by simp only [execOp, hop, resolve, invoke, builtin, Sem.run_bind, Sem.run_pure, Result.andThen_ok, List.map_toArray, List.map_cons, List.map_nil, he1, he2, hr]) h
def FD4 (vm : Value) (bb : Nat) (s : Int) : Nat → Value → Prop
  | 0, v => v = .pointer (some ⟨bb, 0, none⟩)
  | 1, v => v = .pointer (some ⟨bb, 0, none⟩)
  | 2, v => v = .pointer (some ⟨bb, 2, none⟩)
  | 3, v => v = vm
  | 4, v => v = .int .i64 s
  | _, _ => True
set_option maxHeartbeats 8000000 in
theorem drop_any (base bb : Nat) (vw ve vm : Value) (Ws : List Wa) (Es : List Ev) (k c : Nat) (N : Int → Option Int) (s : Int) (w : World) (h : BkW w base bb vw ve vm Ws Es k c N) (hs : InR s) (hlw : Ws.length ≤ 100000) (hle : Es.length ≤ 100000) :
    Calls Tryz.prog 25 #[.pointer (some ⟨bb, 0, none⟩), .int .i64 s] w fun e w' => e = .returned (.tuple #[]) ∧ ∃ vw' ve' c', BkW w' base bb vw' ve' vm (Ws.filter fun x => !(x.ses == s)) (Es.filter fun x => !(x.ses == s)) k c' (updN N s none) ∧ Below base w w' ∧ FrM w w' bb vw ve vm vw' ve' vm := by
  have b1 := (Below.refl w.heap.size w).alloc (Nat.le_refl _) (.cells #[.int .i64 s] 3)
  have N1 := heap_alloc_new w (.cells #[.int .i64 s] 3)
  obtain ⟨w1, hw1⟩ : ∃ w1, w1 = w.alloc (.cells #[.int .i64 s] 3) := ⟨_, rfl⟩
  rw [← hw1] at b1 N1
  have h1 := h.below b1
  have hvs : ∀ g, vw.ownBlock = some g → g < w.heap.size := fun g hg => by
    obtain ⟨c1, q1, _⟩ := row_own h.ws hg
    exact (Array.getElem?_eq_some_iff.1 q1).1
  have hvs2 : ∀ g, ve.ownBlock = some g → g < w.heap.size := fun g hg => by
    obtain ⟨c1, q1, _⟩ := row_own h.es hg
    exact (Array.getElem?_eq_some_iff.1 q1).1
  have hdel := del_wa 51 #[.pointer (some ⟨w.heap.size, 0, none⟩)] (enters_of Tryz.func51 (by kernel_rfl) rfl) (fun x => x.ses == s) base vw Ws w1 hlw h1.ws (fun W x hW => by
    have c1 := (hW.block w.heap.size (Array.getElem?_eq_some_iff.1 N1).1 (fun e => by have := hvs _ e.symm; omega)).trans N1
    exact dropw_any s w.heap.size x W (by simp [World.cell?, c1]))
  have HDEL := Lib.hid hdel
  have HH := Lib.hid h1
  have HW := Lib.hid hw1
  have HN1 := Lib.hid N1
  have x0 := h1.c0
  obtain ⟨wa, wc, hwv, _, _⟩ := waV_form h1.ws
  have HB := Lib.hid b1
  have HBASE := Lib.hid h.lo
  have HV1 := Lib.hid hvs
  have HV2 := Lib.hid hvs2
  have hbw := h.lt
  clear hdel h1 hw1 N1 b1 h hvs hvs2
  subst hwv
  go_enter Tryz.func25, Tryz.ntmps25
  go_upto_region 1 with fail
  rw [← HW.out]
  go_wp2_with fail
  refine HDEL.out.mono ?_
  rintro e w3 ⟨v', rfl, hr, hob, hg⟩
  have hbox : w3.heap[bb]? = some (.cells #[.slice wa Ws.length wc, ve, vm] 56 (0, 0)) := (hg.block bb HH.out.lt (fun e => HH.out.ne_w e.symm rfl)).trans HH.out.box
  have y0 : w3.cell? ⟨bb, 0, none⟩ = some (.slice wa Ws.length wc) := by simp [World.cell?, hbox]
  have f0 : w3.frozen? ⟨bb, 0, none⟩ = false := by simp [World.frozen?, hbox]
  obtain ⟨na, nc, hv', _, _⟩ := waV_form hr
  have hk1 := HH.out.turn hg hr
  have hb3 : Below base w (w3.setCell ⟨bb, 0, none⟩ v') := by
    have q1 := (HB.out.mono HBASE.out.2).grown hg (Nat.le_trans HBASE.out.2 HB.out.size) (fun g hg => by
      obtain ⟨c1, _, q3⟩ := row_own HH.out.ws hg
      exact q3)
    exact q1.setCell (p := ⟨bb, 0, none⟩) HBASE.out.1 _
  have N3 : (w3.setCell ⟨bb, 0, none⟩ v').heap[w.heap.size]? = some (.cells #[.int .i64 s] 3 (0, 0)) := (Below.heap_setCell w3 ⟨bb, 0, none⟩ v' w.heap.size (by show w.heap.size ≠ bb; omega)).trans ((hg.block w.heap.size (Array.getElem?_eq_some_iff.1 HN1.out).1 (fun e => by have := HV1.out _ e.symm; omega)).trans HN1.out)
  have hf3 := (FrM.low (mb := bb) (vw := .slice wa Ws.length wc) (ve := ve) (vm := vm) HB.out).stepW hg (.same hob)
  obtain ⟨nl, hnl⟩ : ∃ nl, nl = (Ws.filter fun x => !(x.ses == s)).length := ⟨_, rfl⟩
  rw [← hnl] at hv'
  subst hv'
  obtain ⟨w4, hw4⟩ : ∃ w4, w4 = w3.setCell ⟨bb, 0, none⟩ (.slice na nl nc) := ⟨_, rfl⟩
  have HW4 := Lib.hid hw4
  rw [← hw4] at hk1 hb3 N3 hf3
  have HF3 := Lib.hid hf3
  have hdel2 := del_ev 52 #[.pointer (some ⟨w.heap.size, 0, none⟩)] (enters_of Tryz.func52 (by kernel_rfl) rfl) (fun x => x.ses == s) base ve Es w4 hle hk1.es (fun W x hW => by
    have c1 := (hW.block w.heap.size (Array.getElem?_eq_some_iff.1 N3).1 (fun e => by have := HV2.out _ e.symm; omega)).trans N3
    exact drope_any s w.heap.size x W (by simp [World.cell?, c1]))
  have HDEL2 := Lib.hid hdel2
  have HK1 := Lib.hid hk1
  have HB3 := Lib.hid hb3
  have HN3 := Lib.hid N3
  have x1 := hk1.c1
  obtain ⟨ea, ec, hev, _, _⟩ := evV_form hk1.es
  clear hr hg hbox hnl hob hw4 hdel2 hk1 hb3 N3 hf3
  subst hev
  go_upto_region 3 with fail
  rw [← HW4.out]
  go_wp2_with fail
  refine HDEL2.out.mono ?_
  rintro e w5 ⟨v', rfl, hr, hob, hg⟩
  have hbox : w5.heap[bb]? = some (.cells #[.slice na nl nc, .slice ea Es.length ec, vm] 56 (0, 0)) := (hg.block bb HK1.out.lt (fun e => HK1.out.ne_e e.symm rfl)).trans HK1.out.box
  have y1 : w5.cell? ⟨bb, 1, none⟩ = some (.slice ea Es.length ec) := by simp [World.cell?, hbox]
  have f1 : w5.frozen? ⟨bb, 1, none⟩ = false := by simp [World.frozen?, hbox]
  obtain ⟨ma, mc, hv', _, _⟩ := evV_form hr
  have hk5 := HK1.out.turnE hg hr
  have hb5 : Below base w (w5.setCell ⟨bb, 1, none⟩ v') := by
    have q1 := HB3.out.grown hg HK1.out.lo.2 (fun g hg => by
      obtain ⟨c1, _, q3⟩ := row_own HK1.out.es hg
      exact q3)
    exact q1.setCell (p := ⟨bb, 1, none⟩) HBASE.out.1 _
  have N5 : (w5.setCell ⟨bb, 1, none⟩ v').heap[w.heap.size]? = some (.cells #[.int .i64 s] 3 (0, 0)) := (Below.heap_setCell w5 ⟨bb, 1, none⟩ v' w.heap.size (by show w.heap.size ≠ bb; omega)).trans ((hg.block w.heap.size (Array.getElem?_eq_some_iff.1 HN3.out).1 (fun e => by have := HV2.out _ e.symm; omega)).trans HN3.out)
  have hf5 := HF3.out.stepE hg (.same hob)
  obtain ⟨el, hel⟩ : ∃ el, el = (Es.filter fun x => !(x.ses == s)).length := ⟨_, rfl⟩
  rw [← hel] at hv'
  subst hv'
  obtain ⟨w6, hw6⟩ : ∃ w6, w6 = w5.setCell ⟨bb, 1, none⟩ (.slice ma el mc) := ⟨_, rfl⟩
  have HW6 := Lib.hid hw6
  rw [← hw6] at hk5 hb5 N5 hf5
  have HF6 : Hid (FrM w w6.drew bb (.slice wa Ws.length wc) (.slice ea Es.length ec) vm (.slice na nl nc) (.slice ma el mc) vm) := Lib.hid (hf5.trans (FrM.low (Below.refl _ w6).drew))
  have x2 := hk5.c2
  have s0 : w6.cell? ⟨w.heap.size, 0, none⟩ = some (.int .i64 s) := by simp [World.cell?, N5]
  have HK5 := Lib.hid hk5
  have HB5 := Lib.hid hb5
  clear hr hg hbox hel hob hw6 hk5 hb5 N5 hf5
  have HK6 := Lib.hid (HK5.out.below (Below.refl _ w6).drew)
  have HB6 : Hid (Below base w w6.drew) := Lib.hid HB5.out.drew
  have HDEL3 : Hid (∃ w7 c', (∀ ty, (Builtin.delete_ #[30, 3] ty #[vm, .int .i64 s]).run Tryz.prog w6.drew = .ok (.tuple #[]) w7) ∧ BkW w7 base bb (.slice na nl nc) (.slice ma el mc) vm (Ws.filter fun x => !(x.ses == s)) (Es.filter fun x => !(x.ses == s)) k c' (updN N s none) ∧ Below base w w7 ∧ FrM w w7 bb (.slice wa Ws.length wc) (.slice ea Es.length ec) vm (.slice na nl nc) (.slice ma el mc) vm) := by
    refine Lib.hid ?_
    have hk := HK6.out
    rcases hk.last with ⟨hv, hN, hc0⟩ | ⟨mb, hv, hmap, hmlo⟩
    · refine ⟨w6.drew, c, fun ty => ?_, ?_, HB6.out, HF6.out⟩
      · rw [hv]
        exact Maps.drop_nil lawI und_mapN (keyI hs) ty
      · have e1 : updN N s none = N := by
          rw [hN]
          funext x
          simp [updN]
        rw [e1]
        exact hk
    · have hf := HF6.out
      rw [hv] at hk hf ⊢
      obtain ⟨w7, h1, h2, h3⟩ := hmap.del s hs 0
      refine ⟨w7, _, fun ty => ?_, hk.turnM h3 h2, HB6.out.grown h3 hk.lo.2 (fun q hq => by cases hq; exact hmlo), hf.trans (FrM.turn h3 (.inr (.inr (.inr rfl))))⟩
      rw [← h1]
      rfl
  have HVM : Hid (∃ q, vm = .map q) := Lib.hid (by
    rcases HK6.out.last with ⟨hv, _⟩ | ⟨mb, hv, _⟩
    · exact ⟨_, hv⟩
    · exact ⟨_, hv⟩)
  have HX2 : Hid (w6.drew.cell? ⟨bb, 2, none⟩ = some vm) := Lib.hid x2
  have HS0 : Hid (w6.drew.cell? ⟨w.heap.size, 0, none⟩ = some (.int .i64 s)) := Lib.hid s0
  go_upto_region 4 with fail
  rw [← HW6.out]
  refine wp_region_inv_last 5 (IFJ (FD4 vm bb s) (fun _ _ W => W = w6.drew)) (by kernel_rfl) (by kernel_rfl) (by kernel_rfl) (by kernel_rfl) (by kernel_rfl) ?_ ?_ ?_
  · intro z
    exact ⟨fun j hj => (by cases hj), rfl⟩
  · intro j o hj ho b z w1 hI hbi hW
    obtain rfl := hI.2
    match j, ho with
    | 0, ho =>
      obtain rfl := Option.some.inj ho
      exact gstep_move rfl (wanted0 rfl) _ rfl _ (eval_of 0 _ (by kernel_rfl) rfl) ⟨_, rfl, IFJ.step hI rfl rfl⟩
    | 1, ho =>
      obtain rfl := Option.some.inj ho
      exact gstep_nil rfl (wanted0 rfl) _ rfl _ (eval_at 24 0 _ (by kernel_rfl) (show 24 < 29 by decide) (hI.1 0 (hW 0 (by kernel_rfl)))) ⟨_, rfl, IFJ.step hI rfl rfl⟩
    | 2, ho =>
      obtain rfl := Option.some.inj ho
      exact gstep_field rfl (wanted0 rfl) _ _ _ rfl _ (eval_at 25 1 _ (by kernel_rfl) (show 25 < 29 by decide) (hI.1 1 (hW 1 (by kernel_rfl)))) _ (run_bkF2 _ _) ⟨_, rfl, IFJ.step hI rfl rfl⟩
    | 3, ho =>
      obtain rfl := Option.some.inj ho
      exact gstep_load rfl (wanted0 rfl) _ _ rfl _ (eval_at 26 2 _ (by kernel_rfl) (show 26 < 29 by decide) (hI.1 2 (hW 2 (by kernel_rfl)))) _ (run_lmp _ _ _ HVM.out HX2.out) ⟨_, rfl, IFJ.step hI rfl rfl⟩
    | 4, ho =>
      obtain rfl := Option.some.inj ho
      exact gstep_load rfl (wanted0 rfl) _ _ rfl _ (eval_of 3 _ (by kernel_rfl) rfl) _ (run_lint _ _ _ HS0.out) ⟨_, rfl, IFJ.step hI rfl rfl⟩
    | n + 5, ho => omega
  · intro o ho b z w1 hI hA
    obtain rfl := hI.2
    obtain rfl := Option.some.inj ho
    have hF3 : z 3 = vm := hI.1 3 (hA 3 (by decide))
    have hF4 : z 4 = .int .i64 s := hI.1 4 (hA 4 (by decide))
    obtain ⟨w7, c', hrun, hbk, hbb, hfr⟩ := HDEL3.out
    refine gstep_del rfl (wanted0 rfl) _ _ _ _ rfl _ _ (eval_at 27 3 _ (by kernel_rfl) (show 27 < 29 by decide) hF3) (eval_at 28 4 _ (by kernel_rfl) (show 28 < 29 by decide) hF4) _ (hrun _) ?_
    simp only [putAll, Act.put, List.setIfInBounds_toArray, List.set_cons_succ, List.set_cons_zero]
    have HBK := Lib.hid hbk
    have HBB := Lib.hid hbb
    have HFR := Lib.hid hfr
    clear hI hA hbk hbb hrun hfr
    go_wp2_with fail
    go_end0
    exact ⟨rfl, _, _, _, HBK.out, HBB.out, HFR.out⟩
end Go.Proofs.YtbbdokfankgllaaGreatDoor
