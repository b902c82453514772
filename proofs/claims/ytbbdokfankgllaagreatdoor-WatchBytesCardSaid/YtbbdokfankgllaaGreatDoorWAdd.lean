/- Add of a book. No conditions beyond those in each statement. -/
import Derived.Test.YtbbdokfankgllaaGreatDoorWBook
import Derived.Deep.DeepCutAuto
namespace Go.Proofs.YtbbdokfankgllaaGreatDoor
open Go.RowKit Go.Maps
set_option linter.unusedVariables false
set_option maxRecDepth 100000

theorem clone_any (s : ByteArray) (w : World) (hs : s.size ≤ 1000000) : Calls Tryz.prog 41 #[.string s] w fun e w' => e = .returned (.string s) ∧ Below w.heap.size w w' := by
  have HA := Lib.hid (Tryz.stringslite_Clone s w (by omega))
  go_enter Tryz.func41, Tryz.ntmps41
  go_wp2_with fail
  refine HA.out.mono ?_
  rintro e w' ⟨rfl, hb⟩
  go_wp2_with fail
  go_ret
  exact ⟨rfl, hb⟩
theorem gstep_extract {P : Program} {Q : Exit → Act → World → Prop} {l : List Oper} {i : Nat} {o : Oper} {a : Act} {w : World} {K : Act → World → Prop} (ho : l[i]? = some o) (hw : WantedIs l a o true) (s : Operand) (k : Nat) (hop : o.op = .extract s k) (v0 : Value) (he : a.eval s = v0) (v : Value) (hr : (Instr.extract v0 k).run P w = .ok v w)
    (h : K (a.put o.dst v) w) : Step P l Q i K a w :=
  gstep_value ho hw v w (by simp only [execOp, hop, he, Sem.run_bind, Sem.run_pure, hr, Result.andThen_ok]) h
theorem run_ext0 (W : World) (a b : Value) : (Instr.extract (.tuple #[a, b]) 0).run Tryz.prog W = .ok a W := by go_simp
theorem run_ext1 (W : World) (a b : Value) : (Instr.extract (.tuple #[a, b]) 1).run Tryz.prog W = .ok b W := by go_simp
theorem call_bsf (W : World) (v1 v2 v3 : Value) : (callFunc 39 #[v1, v2, v3]).run Tryz.prog W = .ok (.enter 39 #[v1, v2, v3]) W := by kernel_rfl
theorem run_bkF0 (W : World) (b : Nat) : (Instr.fieldAt 56 (.pointer (some ⟨b, 0, none⟩)) 0).run Tryz.prog W = .ok (.pointer (some ⟨b, 0, none⟩)) W := by go_simp
theorem run_lws (W : World) (p : Addr) (v : Value) (hv : ∃ a n c, v = .slice a n c) (h : W.cell? p = some v) : (Instr.loadAt 28 (.pointer (some p))).run Tryz.prog W = .ok v W := by
  obtain ⟨a, n, c, rfl⟩ := hv
  go_simp
def FA6 (vw : Value) (x : Wa) (bb xb i : Nat) (b : Bool) : Nat → Value → World → Prop
  | 0, v, _ => v = .pointer (some ⟨bb, 0, none⟩)
  | 1, v, _ => v = .pointer (some ⟨bb, 0, none⟩)
  | 2, v, _ => v = .pointer (some ⟨bb, 0, none⟩)
  | 3, v, _ => v = vw
  | 4, v, _ => v = waV x
  | 5, v, _ => v = .tuple #[.int .i64 (i : Int), .bool b]
  | 6, v, _ => v = .tuple #[.int .i64 (i : Int), .bool b]
  | 7, v, _ => v = .int .i64 (i : Int)
  | 8, v, _ => v = .bool b
  | 9, v, _ => v = .int .i64 (i : Int)
  | 10, v, _ => v = .bool b
  | _, _, _ => True
theorem FA6_keep {vw : Value} {x : Wa} {bb xb i : Nat} {b : Bool} {v : Value} {w w' : World} : ∀ j : Nat, FA6 vw x bb xb i b j v w → FA6 vw x bb xb i b j v w'
  | 0, h => h
  | 1, h => h
  | 2, h => h
  | 3, h => h
  | 4, h => h
  | 5, h => h
  | 6, h => h
  | 7, h => h
  | 8, h => h
  | 9, h => h
  | 10, h => h
  | _ + 11, _ => trivial
def FA12 (vw : Value) (x : Wa) (bb xb i : Nat) : Nat → Value → Prop
  | 0, v => v = .pointer (some ⟨bb, 0, none⟩)
  | 1, v => v = .pointer (some ⟨bb, 0, none⟩)
  | 2, v => v = .pointer (some ⟨bb, 0, none⟩)
  | 3, v => v = .pointer (some ⟨bb, 0, none⟩)
  | 4, v => v = vw
  | 5, v => v = .int .i64 (i : Int)
  | 6, v => v = waV x
  | 7, _ => True
  | 8, _ => True
  | 9, v => v = .pointer (some ⟨bb, 0, none⟩)
  | 10, v => v = .pointer (some ⟨bb, 0, none⟩)
  | _, _ => True
def badS (x : Wa) : Bool := decide (x.ses < 1) || decide (281474976710655 < x.ses)
/-- Add's answer. -/
def addE (Ws : List Wa) (x : Wa) : Int :=
  if badS x = true then 1 else if checkE x.path.data.toList = 0 then (if isB Ws x (posF Ws x) = true then 0 else if 40 ≤ Ws.length then 16 else 0) else checkE x.path.data.toList
def addL (Ws : List Wa) (x : Wa) : List Wa :=
  if badS x = true then Ws else if checkE x.path.data.toList = 0 then (if isB Ws x (posF Ws x) = true then Ws else if 40 ≤ Ws.length then Ws else Ws.take (posF Ws x) ++ x :: Ws.drop (posF Ws x)) else Ws
set_option maxHeartbeats 8000000 in
theorem add_bad (base bb : Nat) (vw ve vm : Value) (Ws : List Wa) (Es : List Ev) (k c : Nat) (N : Int → Option Int) (x : Wa) (w : World) (h : BkW w base bb vw ve vm Ws Es k c N) (hx : badS x = true) :
    Calls Tryz.prog 16 #[.pointer (some ⟨bb, 0, none⟩), waV x] w fun e w' => e = .returned (.int .i64 1) ∧ Below w.heap.size w w' := by
  have bA := (Below.refl w.heap.size w).alloc (Nat.le_refl _) (.cells #[.int .i64 x.ses, .string x.path, .bool x.kids, .bool x.once] 49)
  unfold badS at hx
  unfold waV
  by_cases h1 : x.ses < 1
  · have e1 : decide (x.ses < 1) = true := by simpa using h1
    clear h hx h1
    go_enter Tryz.func16, Tryz.ntmps16
    go_wp2_with fail
    go_ret
    exact ⟨rfl, bA⟩
  · have e1 : decide (x.ses < 1) = false := by simpa using h1
    have e2 : decide (281474976710655 < x.ses) = true := by rw [e1] at hx; simpa using hx
    clear h hx h1
    go_enter Tryz.func16, Tryz.ntmps16
    go_wp2_with fail
    go_ret
    exact ⟨rfl, bA⟩
set_option maxHeartbeats 8000000 in
theorem add_path (base bb : Nat) (vw ve vm : Value) (Ws : List Wa) (Es : List Ev) (k c : Nat) (N : Int → Option Int) (x : Wa) (w : World) (h : BkW w base bb vw ve vm Ws Es k c N) (hx : badS x = false) (hp : ¬ checkE x.path.data.toList = 0) :
    Calls Tryz.prog 16 #[.pointer (some ⟨bb, 0, none⟩), waV x] w fun e w' => e = .returned (.int .i64 (checkE x.path.data.toList)) ∧ Below w.heap.size w w' := by
  have bA := (Below.refl w.heap.size w).alloc (Nat.le_refl _) (.cells #[.int .i64 x.ses, .string x.path, .bool x.kids, .bool x.once] 49)
  have HCK := Lib.hid (fun W => check_any x.path W)
  unfold badS at hx
  rw [Bool.or_eq_false_iff] at hx
  obtain ⟨e1, e2⟩ := hx
  obtain ⟨er, her⟩ : ∃ er, er = checkE x.path.data.toList := ⟨_, rfl⟩
  rw [← her] at HCK hp ⊢
  have e3 : (er == 0) = false := by simpa using hp
  have e4 : (er != 0) = true := by simpa using hp
  unfold waV
  clear h hp her
  go_enter Tryz.func16, Tryz.ntmps16
  go_wp2_with fail
  refine (HCK.out _).mono ?_
  rintro e w2 ⟨rfl, b2⟩
  go_wp2_with fail
  go_ret
  exact ⟨rfl, bA.trans (b2.mono bA.size)⟩
/-- A book whose watches were turned, and laid into its box. -/
theorem cells_ne {w : World} {i j : Nat} {a b : Array Value} {s t : TypeId} {p q : Nat × Nat} (h1 : w.heap[i]? = some (.cells a s p)) (h2 : w.heap[j]? = some (.cells b t q)) (hst : s ≠ t) : i ≠ j := by
  rintro rfl
  rw [h1] at h2
  injection h2 with h2
  injection h2 with _ h2 _
  exact hst h2
theorem map_ne {w : World} {i b k c : Nat} {N : Int → Option Int} {a : Array Value} {s : TypeId} {p : Nat × Nat} (h1 : w.heap[i]? = some (.cells a s p)) (h2 : MapN w b k c N) : i ≠ b := by
  rintro rfl
  obtain ⟨_, D, ⟨es, clock, hb, _⟩, _⟩ := h2
  rw [h1] at hb; cases hb
theorem row_own {w : World} {base : Nat} {e : TypeId} {sz : Nat} {v : Value} {n : Nat} {xs : List Value} (h : w.ownsRow base e sz v n xs) {g : Nat} (hg : v.ownBlock = some g) : ∃ cur, w.heap[g]? = some (.cells cur e (0, 0)) ∧ base ≤ g := by
  rcases h.2 with ⟨h1, _⟩ | ⟨g', cap, cur, h1, h2, h3, _⟩
  · rw [h1] at hg; simp [Value.ownBlock] at hg
  · rw [h1] at hg
    simp [Value.ownBlock] at hg
    subst hg
    exact ⟨cur, h3, h2⟩
section
variable {w w' : World} {base bb : Nat} {vw ve vm : Value} {Ws : List Wa} {Es : List Ev} {k c : Nat} {N : Int → Option Int}
theorem BkW.ne_w (h : BkW w base bb vw ve vm Ws Es k c N) {g : Nat} (hg : vw.ownBlock = some g) : g ≠ bb := by
  obtain ⟨cur, h1, _⟩ := row_own h.ws hg
  exact cells_ne h1 h.box (by decide)
theorem ERow.kept {v : Value} {r : Option Nat} (h : ERow w base v Es) (hg : w.grownBy w' r) (hr : ∀ g, v.ownBlock = some g → r ≠ some g) : ERow w' base v Es := by
  refine ⟨h.1, h.2.imp id ?_⟩
  rintro ⟨g, cc, cur, h1, h3, h4, h5⟩
  exact ⟨g, cc, cur, h1, h3, (hg.block g (Array.getElem?_eq_some_iff.1 h4).1 (fun e => hr g (by rw [h1]; rfl) e.symm)).trans h4, h5⟩
theorem WRow.kept {v : Value} {r : Option Nat} {L : List Wa} (h : WRow w base v L) (hg : w.grownBy w' r) (hr : ∀ g, v.ownBlock = some g → r ≠ some g) : WRow w' base v L := by
  refine ⟨h.1, h.2.imp id ?_⟩
  rintro ⟨g, cc, cur, h1, h3, h4, h5⟩
  exact ⟨g, cc, cur, h1, h3, (hg.block g (Array.getElem?_eq_some_iff.1 h4).1 (fun e => hr g (by rw [h1]; rfl) e.symm)).trans h4, h5⟩
theorem set_grown (w : World) (b i : Nat) (u : Value) : w.grownBy (w.setCell ⟨b, i, none⟩ u) (some b) := ⟨rfl, rfl, rfl, by simp, fun q _ hq => Below.heap_setCell w ⟨b, i, none⟩ u q (fun e => hq (by rw [e]))⟩
theorem BkW.turn (h : BkW w base bb vw ve vm Ws Es k c N) {v' : Value} {L' : List Wa} (hg : w.grownBy w' vw.ownBlock) (hr : WRow w' base v' L') : BkW (w'.setCell ⟨bb, 0, none⟩ v') base bb v' ve vm L' Es k c N := by
  have hbox : w'.heap[bb]? = some (.cells #[vw, ve, vm] 56 (0, 0)) := (hg.block bb h.lt (fun e => h.ne_w e.symm rfl)).trans h.box
  have hg2 := set_grown w' bb 0 v'
  refine ⟨?_, ?_, ?_, ?_, h.lo.1, Nat.le_trans h.lo.2 (Nat.le_trans hg.size hg2.size)⟩
  · have := bset (i := 0) (u := v') hbox
    simpa using this
  · refine hr.kept hg2 (fun g e e2 => ?_)
    obtain ⟨cur, h1, _⟩ := row_own hr e
    exact cells_ne h1 hbox (by decide) (Option.some.inj e2).symm
  · have e1 : ERow w' base ve Es := h.es.kept hg (fun g e e2 => by
      obtain ⟨c1, h1, _⟩ := row_own h.es e
      obtain ⟨c2, h2, _⟩ := row_own h.ws e2
      exact cells_ne h1 h2 (by decide) rfl)
    refine e1.kept hg2 (fun g e e2 => ?_)
    obtain ⟨c1, h1, _⟩ := row_own e1 e
    exact cells_ne h1 hbox (by decide) (Option.some.inj e2).symm
  · rcases h.last with h1 | ⟨mb, h1, h2, h3⟩
    · exact .inl h1
    · refine .inr ⟨mb, h1, (h2.keep0 (hg.block mb h2.lt (fun e => ?_))).keep0 (Below.heap_setCell w' ⟨bb, 0, none⟩ v' mb (fun e => ?_)), h3⟩
      · obtain ⟨c1, q1, _⟩ := row_own h.ws e.symm
        exact map_ne q1 h2 rfl
      · exact map_ne h.box h2 e.symm
end
theorem run_rowW (W : World) (x : Wa) : (Instr.buildSlice 28 1 #[(0, waV x)]).run Tryz.prog W = .ok (.slice (some ⟨W.heap.size, 0, none⟩) 1 1) (W.alloc (.cells #[.int .i64 x.ses, .string x.path, .bool x.kids, .bool x.once] 49)) := by unfold waV; go_simp
theorem call_ins (W : World) (v1 v2 v3 : Value) : (callFunc 42 #[v1, v2, v3]).run Tryz.prog W = .ok (.enter 42 #[v1, v2, v3]) W := by kernel_rfl
theorem run_storeWs (W : World) (p : Addr) (a : Option Addr) (n c : Nat) (u : Value) (h : W.cell? p = some u) (hf : W.frozen? p = false) : (Instr.storeAt 28 (.pointer (some p)) (.slice a n c)).run Tryz.prog W = .ok () (W.setCell p (.slice a n c)) := by go_simp
theorem gstep_row1 {P : Program} {Q : Exit → Act → World → Prop} {l : List Oper} {i : Nat} {o : Oper} {a : Act} {w : World} {K : Act → World → Prop} (ho : l[i]? = some o) (hw : WantedIs l a o true) (t : TypeId) (s1 : Operand) (hop : o.op = .buildSlice t 1 #[(0, s1)]) (v1 : Value) (he1 : a.eval s1 = v1) (v' : Value) (w' : World)
    (hr : (Instr.buildSlice t 1 #[(0, v1)]).run P w = .ok v' w') (h : K (a.put o.dst v') w') : Step P l Q i K a w :=
  gstep_value ho hw v' w' (by simp only [execOp, hop, List.map_toArray, List.map_cons, List.map_nil, he1, Sem.run_bind, Sem.run_pure, hr, Result.andThen_ok]) h
theorem setB_up {b : Nat → Bool} {i j : Nat} (h : b j = true) : setB b i j = true := by unfold setB; split; rfl; exact h
/-- The blocks of a model (or of a book). -/
def OwnM (mb : Nat) (vw ve vm : Value) (b : Nat) : Prop := b = mb ∨ vw.ownBlock = some b ∨ ve.ownBlock = some b ∨ vm = .map (some b)
/-- Nothing that is not one's own turned, and one's own is one's own or new. -/
structure FrM (w w' : World) (mb : Nat) (vw ve vm vw' ve' vm' : Value) : Prop where
  os : w'.os = w.os
  tape : w'.tape = w.tape
  output : w'.output = w.output
  size : w.heap.size ≤ w'.heap.size
  keep : ∀ b, b < w.heap.size → ¬ OwnM mb vw ve vm b → w'.heap[b]? = w.heap[b]?
  own : ∀ b, OwnM mb vw' ve' vm' b → OwnM mb vw ve vm b ∨ w.heap.size ≤ b
theorem FrM.trans {a w x : World} {mb : Nat} {v1 v2 v3 u1 u2 u3 z1 z2 z3 : Value} (h : FrM a w mb v1 v2 v3 u1 u2 u3) (k : FrM w x mb u1 u2 u3 z1 z2 z3) : FrM a x mb v1 v2 v3 z1 z2 z3 := by
  refine ⟨k.os.trans h.os, k.tape.trans h.tape, k.output.trans h.output, Nat.le_trans h.size k.size, fun b hb hn => ?_, fun b hb => ?_⟩
  · refine (k.keep b (Nat.lt_of_lt_of_le hb h.size) (fun e => ?_)).trans (h.keep b hb hn)
    rcases h.own b e with e | e
    · exact hn e
    · omega
  · rcases k.own b hb with e | e
    · exact h.own b e
    · exact .inr (Nat.le_trans h.size e)
theorem FrM.low {w w' : World} {mb : Nat} {vw ve vm : Value} (h : Below w.heap.size w w') : FrM w w' mb vw ve vm vw ve vm := ⟨h.os, h.tape, h.output, h.size, fun b hb _ => h.block b hb, fun b hb => .inl hb⟩
theorem FrM.turn {w w' : World} {mb b : Nat} {vw ve vm : Value} (h : w.grownBy w' (some b)) (hb : OwnM mb vw ve vm b) : FrM w w' mb vw ve vm vw ve vm :=
  ⟨h.os, h.tape, h.output, h.size, fun q hq hn => h.block q hq (fun e => hn (by cases e; exact hb)), fun q hq => .inl hq⟩
theorem OwnOr.from {w x : World} {v v' : Value} (h : OwnOr x v v') (hs : w.heap.size ≤ x.heap.size) : OwnOr w v v' := fun q hq => (h q hq).imp id (fun e => Nat.le_trans hs e)
section
variable {a w w' : World} {mb i : Nat} {v1 v2 v3 vw ve vm v' : Value}
/-- One's row of watches grew, and the box says so. -/
theorem FrM.stepW (h : FrM a w mb v1 v2 v3 vw ve vm) (hg : w.grownBy w' vw.ownBlock) (ho : OwnOr w vw v') : FrM a (w'.setCell ⟨mb, 0, none⟩ v') mb v1 v2 v3 v' ve vm := by
  refine h.trans ⟨hg.os, hg.tape, hg.output, Nat.le_trans hg.size (set_grown w' mb 0 v').size, fun b hb hn => ?_, fun b hb => ?_⟩
  · exact ((set_grown w' mb 0 v').block b (Nat.lt_of_lt_of_le hb hg.size) (fun e => hn (.inl (Option.some.inj e)))).trans (hg.block b hb (fun e => hn (.inr (.inl e.symm))))
  · rcases hb with e | e | e | e
    · exact .inl (.inl e)
    · exact (ho b e).imp (fun e => .inr (.inl e)) id
    · exact .inl (.inr (.inr (.inl e)))
    · exact .inl (.inr (.inr (.inr e)))
/-- One's row of events grew, and the box says so. -/
theorem FrM.stepE (h : FrM a w mb v1 v2 v3 vw ve vm) (hg : w.grownBy w' ve.ownBlock) (ho : OwnOr w ve v') : FrM a (w'.setCell ⟨mb, 1, none⟩ v') mb v1 v2 v3 vw v' vm := by
  refine h.trans ⟨hg.os, hg.tape, hg.output, Nat.le_trans hg.size (set_grown w' mb 1 v').size, fun b hb hn => ?_, fun b hb => ?_⟩
  · exact ((set_grown w' mb 1 v').block b (Nat.lt_of_lt_of_le hb hg.size) (fun e => hn (.inl (Option.some.inj e)))).trans (hg.block b hb (fun e => hn (.inr (.inr (.inl e.symm)))))
  · rcases hb with e | e | e | e
    · exact .inl (.inl e)
    · exact .inl (.inr (.inl e))
    · exact (ho b e).imp (fun e => .inr (.inr (.inl e))) id
    · exact .inl (.inr (.inr (.inr e)))
end
/-- What has run of Add's last region. -/
structure JAd (wd : World) (base : Nat) (vw : Value) (L' : List Wa) (xx : Wa) (b : Nat → Bool) (x : Nat → Value) (w : World) : Prop where
  pre : b 8 = false → Below wd.heap.size wd w
  up : b 8 = true → b 4 = true ∧ b 6 = true ∧ b 7 = true
  u7 : b 7 = true → b 6 = true
  r7 : b 7 = true → b 8 = false → ∃ vb, x 7 = .slice (some ⟨vb, 0, none⟩) 1 1 ∧ WaB w vb xx ∧ wd.heap.size ≤ vb
  post : b 8 = true → WRow w base (x 8) L' ∧ wd.grownBy w vw.ownBlock ∧ OwnOr wd vw (x 8)
section
variable {wd w w' : World} {base : Nat} {vw : Value} {L' : List Wa} {xx : Wa} {b : Nat → Bool} {x : Nat → Value}
theorem JAd.n4 (h : JAd wd base vw L' xx b x w) (hb : b 4 = false) : b 8 = false := by cases e : b 8; rfl; have := (h.up e).1; rw [hb] at this; cases this
theorem JAd.n6 (h : JAd wd base vw L' xx b x w) (hb : b 6 = false) : b 8 = false := by cases e : b 8; rfl; have := (h.up e).2.1; rw [hb] at this; cases this
theorem JAd.n7 (h : JAd wd base vw L' xx b x w) (hb : b 7 = false) : b 8 = false := by cases e : b 8; rfl; have := (h.up e).2.2; rw [hb] at this; cases this
theorem JAd.pure {i : Nat} {v : Value} (h : JAd wd base vw L' xx b x w) (hi : ¬ 7 = i ∧ ¬ 8 = i) : JAd wd base vw L' xx (setB b i) (setX x i v) w := by
  obtain ⟨e7, e8⟩ := hi
  refine ⟨by rw [setB_ne e8]; exact h.pre, ?_, ?_, ?_, ?_⟩
  · rw [setB_ne e8]; exact fun hb => ⟨setB_up (h.up hb).1, setB_up (h.up hb).2.1, setB_up (h.up hb).2.2⟩
  · rw [setB_ne e7]; exact fun hb => setB_up (h.u7 hb)
  · rw [setB_ne e7, setB_ne e8, setX_ne e7]; exact h.r7
  · rw [setB_ne e8, setX_ne e8]; exact h.post
theorem JAd.s7 (h : JAd wd base vw L' xx b x w) (h8 : b 8 = false) (h6 : b 6 = true) : JAd wd base vw L' xx (setB b 7) (setX x 7 (.slice (some ⟨w.heap.size, 0, none⟩) 1 1)) (w.alloc (.cells #[.int .i64 xx.ses, .string xx.path, .bool xx.kids, .bool xx.once] 49)) := by
  have hp := h.pre h8
  refine ⟨fun _ => hp.alloc hp.size _, ?_, ?_, ?_, ?_⟩
  · rw [setB_ne (by decide), h8]; intro e; cases e
  · exact fun _ => setB_up h6
  · intro _ _
    exact ⟨w.heap.size, setX_same _ _ _, heap_alloc_new w _, hp.size⟩
  · rw [setB_ne (by decide), h8]; intro e; cases e
theorem JAd.s8 {v : Value} (h : JAd wd base vw L' xx b x w) (h8 : b 8 = false) (h4 : b 4 = true) (h7 : b 7 = true) (hr : WRow w' base v L') (hg : w.grownBy w' vw.ownBlock) (ho : OwnOr w vw v) : JAd wd base vw L' xx (setB b 8) (setX x 8 v) w' := by
  refine ⟨fun e => (by rw [setB_same] at e; cases e), fun _ => ⟨setB_up h4, setB_up (h.u7 h7), setB_up h7⟩, ?_, fun _ e => (by rw [setB_same] at e; cases e), fun _ => ⟨by rw [setX_same]; exact hr, grownBy_trans (below_grownBy (h.pre h8) _) hg, by rw [setX_same]; exact ho.from (h.pre h8).size⟩⟩
  rw [setB_ne (by decide)]; exact fun hb => setB_up (h.u7 hb)
end
theorem checkE_len {l : List UInt8} (h : checkE l = 0) : l.length ≤ 60 := by
  unfold checkE at h
  split at h
  · rename_i hc
    unfold checkL at hc
    rw [Bool.or_eq_true] at hc
    rcases hc with hc | hc
    · have : l = [47] := by simpa using hc
      rw [this]; simp
    · rw [Bool.and_eq_true, Bool.and_eq_true] at hc
      simpa using hc.2.1
  · cases h
/-- What Add leaves: i is the watch's place, b says whether it is there. -/
def AddR (w : World) (base bb : Nat) (vw ve vm : Value) (Ws : List Wa) (Es : List Ev) (k c : Nat) (N : Int → Option Int) (x : Wa) (i : Nat) (b : Bool) (e : Ending) (w' : World) : Prop :=
  ((b = true ∧ e = .returned (.int .i64 0) ∨ b = false ∧ 40 ≤ Ws.length ∧ e = .returned (.int .i64 16)) ∧ Below w.heap.size w w') ∨
  (b = false ∧ Ws.length < 40 ∧ e = .returned (.int .i64 0) ∧ ∃ v', BkW w' base bb v' ve vm (Ws.take i ++ x :: Ws.drop i) Es k c N ∧ Below base w w' ∧ (∀ b, b < w.heap.size → vw.ownBlock ≠ some b → b ≠ bb → w'.heap[b]? = w.heap[b]?) ∧ FrM w w' bb vw ve vm v' ve vm)
set_option maxHeartbeats 16000000 in
theorem add_main (base bb : Nat) (vw ve vm : Value) (Ws : List Wa) (Es : List Ev) (k c : Nat) (N : Int → Option Int) (x : Wa) (w : World) (h : BkW w base bb vw ve vm Ws Es k c N) (hx : badS x = false) (hp : checkE x.path.data.toList = 0) (hm : Mono Ws x) (hl : Ws.length ≤ 1000) :
    Calls Tryz.prog 16 #[.pointer (some ⟨bb, 0, none⟩), waV x] w fun e w' =>
      AddR w base bb vw ve vm Ws Es k c N x (posF Ws x) (isB Ws x (posF Ws x)) e w' := by
  have bA := (Below.refl w.heap.size w).alloc (Nat.le_refl _) (.cells #[.int .i64 x.ses, .string x.path, .bool x.kids, .bool x.once] 49)
  have NA : WaB (w.alloc (.cells #[.int .i64 x.ses, .string x.path, .bool x.kids, .bool x.once] 49)) w.heap.size x := heap_alloc_new w _
  have HCK := Lib.hid (fun W => check_any x.path W)
  rw [hp] at HCK
  have hpl := checkE_len hp
  rw [← Lib.size_eq] at hpl
  have HCLN := Lib.hid (fun W => clone_any x.path W (by omega))
  have HFU := (found_pos Ws x hm).le
  have HH := Lib.hid h
  unfold badS at hx
  rw [Bool.or_eq_false_iff] at hx
  obtain ⟨e1, e2⟩ := hx
  have HMM := Lib.hid hm
  obtain ⟨i, hi⟩ : ∃ i, i = posF Ws x := ⟨_, rfl⟩
  obtain ⟨b, hb⟩ : ∃ b, b = isB Ws x i := ⟨_, rfl⟩
  have HBS : Hid (∀ W : World, Below w.heap.size w W → Calls Tryz.prog 39 #[vw, waV x, .func (.func 40) #[] #[]] W fun e w' => e = .returned (.tuple #[.int .i64 (i : Nat), .bool b]) ∧ Below W.heap.size W w') := Lib.hid fun W hW => by
    have := bs_pos base vw Ws x W hl (HH.out.ws.below hW) HMM.out
    rw [← hi, ← hb] at this; exact this
  rw [← hi] at HFU ⊢
  rw [← hb]
  have hlen : ∃ a cc, vw = .slice a Ws.length cc := by obtain ⟨a, cc, h1, _⟩ := waV_form h.ws; exact ⟨a, cc, h1⟩
  have HWF : Hid (∃ a n cc, vw = .slice a n cc) := Lib.hid (by obtain ⟨a, cc, h1⟩ := hlen; exact ⟨a, _, cc, h1⟩)
  have HLEN := Lib.hid hlen
  clear h hm hp hi hb hpl hlen
  unfold waV
  go_enter Tryz.func16, Tryz.ntmps16
  go_wp2_with fail
  refine (HCK.out _).mono ?_
  rintro e w2 ⟨rfl, b2⟩
  have N2 := NA.below b2
  replace b2 := bA.trans (b2.mono bA.size)
  obtain ⟨xb, hxb⟩ : ∃ xb, xb = w.heap.size := ⟨_, rfl⟩
  rw [← hxb] at N2 ⊢
  have HXB := Lib.hid hxb
  have HN2 := Lib.hid N2
  have HB2 := Lib.hid b2
  clear NA bA hxb N2 b2 HCK
  go_upto_region 6 with fail
  have HD6 : Hid (∀ W : World, Below w2.drew.heap.size w2.drew W → Below w.heap.size w W) := Lib.hid fun W hW => HB2.out.trans (((Below.refl _ w2).drew.trans (hW.mono (Nat.le_refl _))).mono HB2.out.size)
  have HBS0 := HBS
  replace HBS : Hid (∀ W : World, Below w2.drew.heap.size w2.drew W → Calls Tryz.prog 39 #[vw, waV x, .func (.func 40) #[] #[]] W fun e w' => e = .returned (.tuple #[.int .i64 (i : Nat), .bool b]) ∧ Below W.heap.size W w') := Lib.hid fun W hW => HBS0.out W (HD6.out W hW)
  have HCE : Hid (∀ W : World, Below w2.drew.heap.size w2.drew W → W.cell? ⟨bb, 0, none⟩ = some vw ∧ Wa4 W xb 0 x) := Lib.hid fun W hW => ⟨(HH.out.below (HD6.out W hW)).c0, (HN2.out.below ((Below.refl _ w2).drew.trans (hW.mono (Nat.le_refl _)))).cells⟩
  have HD62 : Hid (∀ W : World, Below w2.drew.heap.size w2.drew W → Below w2.heap.size w2 W) := Lib.hid fun W hW => (Below.refl _ w2).drew.trans (hW.mono (Nat.le_refl _))
  clear HBS0
  go_cut [6, 7] (fun p q wx => p = .int .i64 (i : Int) ∧ q = .bool b ∧ Below w2.heap.size w2 wx)
  case first =>
    refine wp_region_steps (FA6 vw x bb xb i b) (fun w w' => Below w.heap.size w w') (by kernel_rfl) (by kernel_rfl) (by kernel_rfl) (Below.refl _ _) ?_ (fun u v w h1 h2 => h1.trans (h2.mono h1.size)) ?_ ?_
    · intro i v w w' _ h1 h2
      exact FA6_keep i h1
    · intro j o ho z w1 hR hF
      match j, ho with
      | 0, ho =>
        obtain rfl := Option.some.inj ho
        exact gstep_move rfl (wanted0 rfl) _ rfl _ (eval_of 0 _ (by kernel_rfl) rfl) ⟨_, rfl, rfl, Below.refl _ _⟩
      | 1, ho =>
        obtain rfl := Option.some.inj ho
        exact gstep_nil rfl (wanted0 rfl) _ rfl _ (eval_at 27 0 _ (by kernel_rfl) (show 27 < 57 by decide) (hF 0 (by kernel_rfl))) ⟨_, rfl, rfl, Below.refl _ _⟩
      | 2, ho =>
        obtain rfl := Option.some.inj ho
        exact gstep_field rfl (wanted0 rfl) _ _ _ rfl _ (eval_at 28 1 _ (by kernel_rfl) (show 28 < 57 by decide) (hF 1 (by kernel_rfl))) _ (run_bkF0 w1 _) ⟨_, rfl, rfl, Below.refl _ _⟩
      | 3, ho =>
        obtain rfl := Option.some.inj ho
        exact gstep_load rfl (wanted0 rfl) _ _ rfl _ (eval_at 29 2 _ (by kernel_rfl) (show 29 < 57 by decide) (hF 2 (by kernel_rfl))) _ (run_lws w1 _ _ HWF.out (HCE.out w1 hR).1) ⟨_, rfl, rfl, Below.refl _ _⟩
      | 4, ho =>
        obtain rfl := Option.some.inj ho
        exact gstep_load rfl (wanted0 rfl) _ _ rfl _ (eval_of 3 _ (by kernel_rfl) rfl) _ (run_lwa w1 _ 0 _ (HCE.out w1 hR).2) ⟨_, rfl, rfl, Below.refl _ _⟩
      | 5, ho =>
        obtain rfl := Option.some.inj ho
        refine gstep_call3 rfl (wanted0 rfl) _ _ _ _ _ rfl _ _ _ (eval_at 30 3 _ (by kernel_rfl) (show 30 < 57 by decide) (hF 3 (by kernel_rfl))) (eval_at 31 4 _ (by kernel_rfl) (show 31 < 57 by decide) (hF 4 (by kernel_rfl))) rfl (call_bsf w1 _ _ _) ?_
        refine (HBS.out w1 hR).mono ?_
        rintro e w2 ⟨rfl, hb⟩
        exact ⟨_, rfl, _, rfl, rfl, hb⟩
      | 6, ho =>
        obtain rfl := Option.some.inj ho
        exact gstep_move rfl (wanted0 rfl) _ rfl _ (eval_at 32 5 _ (by kernel_rfl) (show 32 < 57 by decide) (hF 5 (by kernel_rfl))) ⟨_, rfl, rfl, Below.refl _ _⟩
      | 7, ho =>
        obtain rfl := Option.some.inj ho
        exact gstep_extract rfl (wanted0 rfl) _ _ rfl _ (eval_at 26 6 _ (by kernel_rfl) (show 26 < 57 by decide) (hF 6 (by kernel_rfl))) _ (run_ext0 w1 _ _) ⟨_, rfl, rfl, Below.refl _ _⟩
      | 8, ho =>
        obtain rfl := Option.some.inj ho
        exact gstep_extract rfl (wanted0 rfl) _ _ rfl _ (eval_at 26 6 _ (by kernel_rfl) (show 26 < 57 by decide) (hF 6 (by kernel_rfl))) _ (run_ext1 w1 _ _) ⟨_, rfl, rfl, Below.refl _ _⟩
      | 9, ho =>
        obtain rfl := Option.some.inj ho
        exact gstep_assign rfl (wanted0 rfl) _ rfl _ (eval_at 33 7 _ (by kernel_rfl) (show 33 < 57 by decide) (hF 7 (by kernel_rfl))) ⟨_, rfl, rfl, Below.refl _ _⟩
      | 10, ho =>
        obtain rfl := Option.some.inj ho
        exact gstep_assign rfl (wanted0 rfl) _ rfl _ (eval_at 34 8 _ (by kernel_rfl) (show 34 < 57 by decide) (hF 8 (by kernel_rfl))) ⟨_, rfl, rfl, Below.refl _ _⟩
      | n + 11, ho => simp at ho
    · intro z w1 hR hF
      have h9 : z 9 = .int .i64 (i : Int) := hF 9 (by decide)
      have h10 : z 10 = .bool b := hF 10 (by decide)
      have hb := HD62.out w1 hR
      simp only [putAll, Act.put, List.setIfInBounds_toArray, List.set_cons_succ, List.set_cons_zero]
      go_wp2_with fail
      go_meet
      exact ⟨(by first | rfl | exact h9), (by first | rfl | exact h10), hb⟩
  case rest =>
    obtain ⟨rfl, rfl, b9⟩ := hcut
    have b9w := HB2.out.trans (b9.mono HB2.out.size)
    have N9 := HN2.out.below b9
    clear HBS HCE HD6 HD62
    cases b
    · obtain ⟨a, cc, hv⟩ := HLEN.out
      have x0 := (HH.out.below b9w).c0
      rw [hv] at x0
      by_cases hq : 40 ≤ Ws.length
      · have e5 : decide ((40 : Int) ≤ (Ws.length : Int)) = true := by simp; omega
        have HQ := Lib.hid hq
        clear hq b9 N9
        go_wp2_with fail
        go_ret
        exact .inl ⟨.inr ⟨rfl, HQ.out, rfl⟩, b9w⟩
      · have e5 : decide ((40 : Int) ≤ (Ws.length : Int)) = false := by simp; omega
        have HQ : Hid (Ws.length < 40) := Lib.hid (by omega)
        have x1 := N9.cells.2.1
        have HN9 := Lib.hid N9
        have HB9w := Lib.hid b9w
        have hxlt := N9.lt
        clear hq b9 N9 b9w
        go_wp2_with fail
        refine (HCLN.out _).mono ?_
        rintro e w10 ⟨rfl, b10⟩
        have N10 := HN9.out.below b10
        have b10w := HB9w.out.trans (b10.mono HB9w.out.size)
        have y1 := N10.cells.2.1
        have f1 : w10.frozen? ⟨xb, 1, none⟩ = false := by unfold WaB at N10; simp [World.frozen?, N10]
        have N11 : WaB (w10.setCell ⟨xb, 1, none⟩ (.string x.path)) xb x := by
          have := bset (i := 1) (u := .string x.path) N10
          simpa [WaB] using this
        have hxw : w.heap.size ≤ xb := by rw [HXB.out]; exact Nat.le_refl _
        have b11 : Below w.heap.size w (w10.setCell ⟨xb, 1, none⟩ (.string x.path)) := b10w.setCell (p := ⟨xb, 1, none⟩) hxw _
        have HN11 := Lib.hid N11
        have HB11 := Lib.hid b11
        clear N10 N11 b11 b10w x0 x1 hxw b10
        go_upto_region 12 with fail
        obtain ⟨w5, hw5⟩ : ∃ w5, w5 = w10.setCell ⟨xb, 1, none⟩ (.string x.path) := ⟨_, rfl⟩
        rw [← hw5] at HN11 HB11 ⊢
        have HK5 : Hid (BkW w5.drew base bb vw ve vm Ws Es k c N) := Lib.hid ((HH.out.below HB11.out).below ((Below.refl _ w5).drew))
        have HCE : Hid (∀ W : World, Below w5.drew.heap.size w5.drew W → W.cell? ⟨bb, 0, none⟩ = some vw ∧ Wa4 W xb 0 x) := Lib.hid fun W hW => ⟨(HK5.out.below hW).c0, (HN11.out.below ((Below.refl _ w5).drew.trans (hW.mono (Nat.le_refl _)))).cells⟩
        have HIN : Hid (∀ (W : World) (vb : Nat), Below w5.drew.heap.size w5.drew W → WaB W vb x → w5.drew.heap.size ≤ vb → Calls Tryz.prog 42 #[vw, .int .i64 (i : Int), .slice (some ⟨vb, 0, none⟩) 1 1] W fun e w' => ∃ v', e = .returned v' ∧ WRow w' base v' (Ws.take i ++ x :: Ws.drop i) ∧ W.grownBy w' vw.ownBlock ∧ OwnOr W vw v') := Lib.hid fun W vb hW hwb hlo =>
          ins_any base vw Ws i x vb W (HK5.out.ws.below hW) hwb (fun g hg => by
            obtain ⟨c1, q1, _⟩ := row_own HK5.out.ws hg
            have := (Array.getElem?_eq_some_iff.1 q1).1
            omega) HFU (Nat.le_trans HK5.out.lo.2 hW.size) (by have := HQ.out; omega)
        clear hw5 y1 f1 HN9 HB9w
        refine wp_region_inv_last 11 (IFJ (FA12 vw x bb xb i) (JAd w5.drew base vw (Ws.take i ++ x :: Ws.drop i) x)) (by kernel_rfl) (by kernel_rfl) (by kernel_rfl) (by kernel_rfl) (by kernel_rfl) ?_ ?_ ?_
        · intro z
          exact ⟨fun j hj => (by cases hj), ⟨fun _ => Below.refl _ _, fun hj => (by cases hj), fun hj => (by cases hj), fun hj => (by cases hj), fun hj => (by cases hj)⟩⟩
        · intro j o hj ho b z w1 hI hbi hW
          match j, ho with
          | 0, ho =>
            obtain rfl := Option.some.inj ho
            exact gstep_move rfl (wanted0 rfl) _ rfl _ (eval_of 0 _ (by kernel_rfl) rfl) ⟨_, rfl, IFJ.step hI rfl (hI.2.pure (by decide))⟩
          | 1, ho =>
            obtain rfl := Option.some.inj ho
            exact gstep_move rfl (wanted0 rfl) _ rfl _ (eval_of 0 _ (by kernel_rfl) rfl) ⟨_, rfl, IFJ.step hI rfl (hI.2.pure (by decide))⟩
          | 2, ho =>
            obtain rfl := Option.some.inj ho
            exact gstep_nil rfl (wanted0 rfl) _ rfl _ (eval_at 47 1 _ (by kernel_rfl) (show 47 < 57 by decide) (hI.1 1 (hW 1 (by kernel_rfl)))) ⟨_, rfl, IFJ.step hI rfl (hI.2.pure (by decide))⟩
          | 3, ho =>
            obtain rfl := Option.some.inj ho
            exact gstep_field rfl (wanted0 rfl) _ _ _ rfl _ (eval_at 48 2 _ (by kernel_rfl) (show 48 < 57 by decide) (hI.1 2 (hW 2 (by kernel_rfl)))) _ (run_bkF0 w1 _) ⟨_, rfl, IFJ.step hI rfl (hI.2.pure (by decide))⟩
          | 4, ho =>
            obtain rfl := Option.some.inj ho
            have h8 : b 8 = false := hI.2.n4 hbi
            exact gstep_load rfl (wanted0 rfl) _ _ rfl _ (eval_at 49 3 _ (by kernel_rfl) (show 49 < 57 by decide) (hI.1 3 (hW 3 (by kernel_rfl)))) _ (run_lws w1 _ _ HWF.out (HCE.out w1 (hI.2.pre h8)).1) ⟨_, rfl, IFJ.step hI rfl (hI.2.pure (by decide))⟩
          | 5, ho =>
            obtain rfl := Option.some.inj ho
            exact gstep_move rfl (wanted0 rfl) _ rfl _ (eval_of 6 _ (by kernel_rfl) rfl) ⟨_, rfl, IFJ.step hI rfl (hI.2.pure (by decide))⟩
          | 6, ho =>
            obtain rfl := Option.some.inj ho
            have h8 : b 8 = false := hI.2.n6 hbi
            exact gstep_load rfl (wanted0 rfl) _ _ rfl _ (eval_of 3 _ (by kernel_rfl) rfl) _ (run_lwa w1 _ 0 _ (HCE.out w1 (hI.2.pre h8)).2) ⟨_, rfl, IFJ.step hI rfl (hI.2.pure (by decide))⟩
          | 7, ho =>
            obtain rfl := Option.some.inj ho
            have h8 : b 8 = false := hI.2.n7 hbi
            exact gstep_row1 rfl (wanted0 rfl) _ _ rfl _ (eval_at 52 6 _ (by kernel_rfl) (show 52 < 57 by decide) (hI.1 6 (hW 6 (by kernel_rfl)))) _ _ (run_rowW w1 x) ⟨_, rfl, IFJ.step hI trivial (hI.2.s7 h8 (hW 6 (by kernel_rfl)))⟩
          | 8, ho =>
            obtain rfl := Option.some.inj ho
            obtain ⟨vb, hx7, hwb, hlo⟩ := hI.2.r7 (hW 7 (by kernel_rfl)) hbi
            refine gstep_call3 rfl (wanted0 rfl) _ _ _ _ _ rfl _ _ _ (eval_at 50 4 _ (by kernel_rfl) (show 50 < 57 by decide) (hI.1 4 (hW 4 (by kernel_rfl)))) (eval_at 51 5 _ (by kernel_rfl) (show 51 < 57 by decide) (hI.1 5 (hW 5 (by kernel_rfl)))) (eval_at 53 7 _ (by kernel_rfl) (show 53 < 57 by decide) hx7) (call_ins w1 _ _ _) ?_
            refine (HIN.out w1 vb (hI.2.pre hbi) hwb hlo).mono ?_
            rintro e w2 ⟨v', rfl, hr, hg, ho⟩
            exact ⟨_, rfl, _, rfl, IFJ.step hI trivial (hI.2.s8 hbi (hW 4 (by kernel_rfl)) (hW 7 (by kernel_rfl)) hr hg ho)⟩
          | 9, ho =>
            obtain rfl := Option.some.inj ho
            exact gstep_nil rfl (wanted0 rfl) _ rfl _ (eval_at 46 0 _ (by kernel_rfl) (show 46 < 57 by decide) (hI.1 0 (hW 0 (by kernel_rfl)))) ⟨_, rfl, IFJ.step hI rfl (hI.2.pure (by decide))⟩
          | 10, ho =>
            obtain rfl := Option.some.inj ho
            exact gstep_field rfl (wanted0 rfl) _ _ _ rfl _ (eval_at 55 9 _ (by kernel_rfl) (show 55 < 57 by decide) (hI.1 9 (hW 9 (by kernel_rfl)))) _ (run_bkF0 w1 _) ⟨_, rfl, IFJ.step hI rfl (hI.2.pure (by decide))⟩
          | n + 11, ho => omega
        · intro o ho b z w1 hI hA
          obtain rfl := Option.some.inj ho
          have hF10 : z 10 = .pointer (some ⟨bb, 0, none⟩) := hI.1 10 (hA 10 (by decide))
          obtain ⟨hrow, hgr, hoo⟩ := hI.2.post (hA 8 (by decide))
          obtain ⟨a9, c9, hx8, _, _⟩ := waV_form hrow
          have hbk := HK5.out.turn hgr hrow
          have hbox : w1.heap[bb]? = some (.cells #[vw, ve, vm] 56 (0, 0)) := (hgr.block bb HK5.out.lt (fun e => HK5.out.ne_w e.symm rfl)).trans HK5.out.box
          have hcell : w1.cell? ⟨bb, 0, none⟩ = some vw := by simp [World.cell?, hbox]
          have hfrz : w1.frozen? ⟨bb, 0, none⟩ = false := by simp [World.frozen?, hbox]
          have bb1 : Below base w (w1.setCell ⟨bb, 0, none⟩ (z 8)) := by
            have q1 : Below base w w5.drew := (HB11.out.drew).mono HH.out.lo.2
            have q2 := q1.grown hgr (Nat.le_trans HH.out.lo.2 HB11.out.size) (fun g hg => by
              obtain ⟨c1, _, q3⟩ := row_own HK5.out.ws hg
              exact q3)
            exact q2.setCell (p := ⟨bb, 0, none⟩) HH.out.lo.1 _
          have hkp : ∀ b, b < w.heap.size → vw.ownBlock ≠ some b → b ≠ bb → (w1.setCell ⟨bb, 0, none⟩ (z 8)).heap[b]? = w.heap[b]? := fun b hb hne hnb =>
            (Below.heap_setCell w1 ⟨bb, 0, none⟩ (z 8) b hnb).trans ((hgr.block b (Nat.lt_of_lt_of_le hb HB11.out.size) (fun e => hne e.symm)).trans (HB11.out.drew.block b hb))
          obtain ⟨nl, hnl⟩ : ∃ nl, nl = (Ws.take i ++ x :: Ws.drop i).length := ⟨_, rfl⟩
          rw [← hnl] at hx8
          have hfrm : FrM w (w1.setCell ⟨bb, 0, none⟩ (z 8)) bb vw ve vm (z 8) ve vm := (FrM.low (HB11.out.drew)).stepW hgr hoo
          rw [hx8] at hbk bb1 hkp hfrm
          have HKP := Lib.hid hkp
          have HFRM := Lib.hid hfrm
          refine gstep_store rfl (wanted0 rfl) _ _ _ rfl _ _ (eval_at 56 10 _ (by kernel_rfl) (show 56 < 57 by decide) hF10) (eval_at 54 8 _ (by kernel_rfl) (show 54 < 57 by decide) hx8) _ (run_storeWs w1 _ _ _ _ _ hcell hfrz) ?_
          simp only [putAll, Act.put, List.setIfInBounds_toArray, List.set_cons_succ, List.set_cons_zero]
          have HBK := Lib.hid hbk
          clear hI hA hrow hgr hx8 hbk hbox hcell hfrz hF10 hnl hkp hfrm hoo
          go_wp2_with fail
          go_ret
          exact .inr ⟨rfl, HQ.out, rfl, _, HBK.out, bb1, HKP.out, HFRM.out⟩
    · clear N9 b9
      go_wp2_with fail
      go_ret
      exact .inl ⟨.inl ⟨rfl, rfl⟩, b9w⟩
end Go.Proofs.YtbbdokfankgllaaGreatDoor
