/- A book and a model beside each other. No conditions beyond those in each statement. -/
import Derived.Test.YtbbdokfankgllaaGreatDoorWMAdd
import Derived.Test.YtbbdokfankgllaaGreatDoorWMFire
namespace Go.Proofs.YtbbdokfankgllaaGreatDoor
open Go.RowKit Go.Maps Go.Shelf
set_option linter.unusedVariables false
set_option maxRecDepth 100000

section
variable {w w' : World} {base bb mb : Nat} {vw ve vm : Value} {Ws : List Wa} {Es : List Ev} {k c : Nat} {N : Int → Option Int}
theorem ownsRow_keep {e : TypeId} {sz n : Nat} {v : Value} {xs : List Value} (h : w.ownsRow base e sz v n xs) (hk : ∀ b, v.ownBlock = some b → w'.heap[b]? = w.heap[b]?) : w'.ownsRow base e sz v n xs := by
  refine ⟨h.1, h.2.imp id ?_⟩
  rintro ⟨g, cc, cur, h1, h2, h3, h4⟩
  exact ⟨g, cc, cur, h1, h2, (hk g (by rw [h1]; rfl)).trans h3, h4⟩
theorem MoW.keepF (h : MoW w base mb vw ve vm Ws Es k c N) (hk : ∀ b, OwnM mb vw ve vm b → w'.heap[b]? = w.heap[b]?) (hs : w.heap.size ≤ w'.heap.size) : MoW w' base mb vw ve vm Ws Es k c N := by
  refine ⟨(hk mb (.inl rfl)).trans h.box, ownsRow_keep h.ws (fun b hb => hk b (.inr (.inl hb))), ownsRow_keep h.es (fun b hb => hk b (.inr (.inr (.inl hb)))), h.last.imp id ?_, h.lo.1, Nat.le_trans h.lo.2 hs⟩
  rintro ⟨q, h1, h2, h3⟩
  exact ⟨q, h1, h2.keep0 (hk q (.inr (.inr (.inr h1)))), h3⟩
theorem BkW.keepF (h : BkW w base mb vw ve vm Ws Es k c N) (hk : ∀ b, OwnM mb vw ve vm b → w'.heap[b]? = w.heap[b]?) (hs : w.heap.size ≤ w'.heap.size) : BkW w' base mb vw ve vm Ws Es k c N := by
  refine ⟨(hk mb (.inl rfl)).trans h.box, ownsRow_keep h.ws (fun b hb => hk b (.inr (.inl hb))), ownsRow_keep h.es (fun b hb => hk b (.inr (.inr (.inl hb)))), h.last.imp id ?_, h.lo.1, Nat.le_trans h.lo.2 hs⟩
  rintro ⟨q, h1, h2, h3⟩
  exact ⟨q, h1, h2.keep0 (hk q (.inr (.inr (.inr h1)))), h3⟩
theorem BkW.own_lt (h : BkW w base mb vw ve vm Ws Es k c N) {b : Nat} (hb : OwnM mb vw ve vm b) : b < w.heap.size ∧ base ≤ b := by
  rcases hb with e | e | e | e
  · rw [e]; exact ⟨h.lt, h.lo.1⟩
  · obtain ⟨_, h1, h2⟩ := row_own h.ws e; exact ⟨(Array.getElem?_eq_some_iff.1 h1).1, h2⟩
  · obtain ⟨_, h1, h2⟩ := row_own h.es e; exact ⟨(Array.getElem?_eq_some_iff.1 h1).1, h2⟩
  · rcases h.last with ⟨h1, _⟩ | ⟨q, h1, h2, h3⟩
    · rw [h1] at e; cases e
    · rw [h1] at e; cases e; exact ⟨h2.lt, h3⟩
theorem MoW.own_lo (h : MoW w base mb vw ve vm Ws Es k c N) {b : Nat} (hb : OwnM mb vw ve vm b) : b < w.heap.size ∧ base ≤ b := by
  rcases hb with e | e | e | e
  · rw [e]; exact ⟨h.lt, h.lo.1⟩
  · obtain ⟨_, h1, h2⟩ := row_own h.ws e; exact ⟨(Array.getElem?_eq_some_iff.1 h1).1, h2⟩
  · obtain ⟨_, h1, h2⟩ := row_own h.es e; exact ⟨(Array.getElem?_eq_some_iff.1 h1).1, h2⟩
  · rcases h.last with ⟨h1, _⟩ | ⟨q, h1, h2, h3⟩
    · rw [h1] at e; cases e
    · rw [h1] at e; cases e; exact ⟨h2.lt, h3⟩
end
/-- Nothing but what is O turned; what is O then was O, or is new. -/
structure FrO (w w' : World) (O O' : Nat → Prop) : Prop where
  os : w'.os = w.os
  tape : w'.tape = w.tape
  output : w'.output = w.output
  size : w.heap.size ≤ w'.heap.size
  keep : ∀ b, b < w.heap.size → ¬ O b → w'.heap[b]? = w.heap[b]?
  own : ∀ b, O' b → O b ∨ w.heap.size ≤ b
section
variable {a w w' : World} {O O' O2 : Nat → Prop} {base x : Nat}
theorem FrO.trans (h : FrO a w O O') (k : FrO w w' O' O2) : FrO a w' O O2 := by
  refine ⟨k.os.trans h.os, k.tape.trans h.tape, k.output.trans h.output, Nat.le_trans h.size k.size, fun b hb hn => ?_, fun b hb => ?_⟩
  · refine (k.keep b (Nat.lt_of_lt_of_le hb h.size) (fun e => ?_)).trans (h.keep b hb hn)
    rcases h.own b e with e | e
    · exact hn e
    · omega
  · rcases k.own b hb with e | e
    · exact h.own b e
    · exact .inr (Nat.le_trans h.size e)
theorem FrO.low (h : Below w.heap.size w w') : FrO w w' O O := ⟨h.os, h.tape, h.output, h.size, fun b hb _ => h.block b hb, fun b hb => .inl hb⟩
theorem FrO.below (h : FrO w w' O O') (hlo : ∀ b, O b → base ≤ b) (hb : base ≤ w.heap.size) : Below base w w' :=
  ⟨h.os, h.tape, h.output, h.size, fun b hb2 => h.keep b (by omega) (fun e => by have := hlo b e; omega)⟩
/-- A block that is none of these. -/
def Oth (w : World) (O : Nat → Prop) (x : Nat) : Prop := x < w.heap.size ∧ ¬ O x
theorem Oth.keep (h : Oth w O x) (f : FrO w w' O O') : w'.heap[x]? = w.heap[x]? ∧ Oth w' O' x :=
  ⟨f.keep x h.1 h.2, Nat.lt_of_lt_of_le h.1 f.size, fun e => by
    rcases f.own x e with e | e
    · exact h.2 e
    · have := h.1; omega⟩
end
/-- A book and a model beside each other; O says which blocks are theirs. -/
def PairW (w : World) (base bb mb kk : Nat) (O : Nat → Prop) (Wb : List Wa) (Eb : List Ev) (Nb : Int → Option Int) (Wm : List Wa) (Em : List Ev) (Nm : Int → Option Int) : Prop :=
  ∃ vw ve vm k c uw ue um k' c', BkW w base bb vw ve vm Wb Eb k c Nb ∧ MoW w base mb uw ue um Wm Em k' c' Nm ∧ (∀ b, OwnM bb vw ve vm b → ¬ OwnM mb uw ue um b) ∧ (∀ b, O b ↔ OwnM bb vw ve vm b ∨ OwnM mb uw ue um b) ∧ k ≤ kk ∧ k' ≤ kk
section
variable {w w' : World} {base bb mb kk kk' : Nat} {O : Nat → Prop} {Wb Wm W' : List Wa} {Eb Em E' : List Ev} {Nb Nm N' : Int → Option Int}
theorem PairW.below (h : PairW w base bb mb kk O Wb Eb Nb Wm Em Nm) (hb : Below w.heap.size w w') : PairW w' base bb mb kk O Wb Eb Nb Wm Em Nm := by
  obtain ⟨vw, ve, vm, k, c, uw, ue, um, k', c', h1, h2, h3, h4, h5, h6⟩ := h
  exact ⟨vw, ve, vm, k, c, uw, ue, um, k', c', h1.below hb, h2.below hb, h3, h4, h5, h6⟩
theorem PairW.mono (h : PairW w base bb mb kk O Wb Eb Nb Wm Em Nm) (hk : kk ≤ kk') : PairW w base bb mb kk' O Wb Eb Nb Wm Em Nm := by
  obtain ⟨vw, ve, vm, k, c, uw, ue, um, k', c', h1, h2, h3, h4, h5, h6⟩ := h
  exact ⟨vw, ve, vm, k, c, uw, ue, um, k', c', h1, h2, h3, h4, by omega, by omega⟩
theorem PairW.lo (h : PairW w base bb mb kk O Wb Eb Nb Wm Em Nm) : (∀ b, O b → base ≤ b ∧ b < w.heap.size) ∧ base ≤ w.heap.size := by
  obtain ⟨vw, ve, vm, k, c, uw, ue, um, k', c', h1, h2, h3, h4, h5, h6⟩ := h
  refine ⟨fun b hb => ?_, h1.lo.2⟩
  rcases (h4 b).1 hb with e | e
  · exact ⟨(h1.own_lt e).2, (h1.own_lt e).1⟩
  · exact ⟨(h2.own_lo e).2, (h2.own_lo e).1⟩
theorem PairW.keep (h : PairW w base bb mb kk O Wb Eb Nb Wm Em Nm) (hk : ∀ b, O b → w'.heap[b]? = w.heap[b]?) (hs : w.heap.size ≤ w'.heap.size) : PairW w' base bb mb kk O Wb Eb Nb Wm Em Nm := by
  obtain ⟨vw, ve, vm, k, c, uw, ue, um, k', c', h1, h2, h3, h4, h5, h6⟩ := h
  exact ⟨vw, ve, vm, k, c, uw, ue, um, k', c', h1.keepF (fun b hb => hk b ((h4 b).2 (.inl hb))) hs, h2.keepF (fun b hb => hk b ((h4 b).2 (.inr hb))) hs, h3, h4, h5, h6⟩
/-- A method of the book. -/
theorem PairW.stepB (h : PairW w base bb mb kk O Wb Eb Nb Wm Em Nm) {f : FuncId} {args : Array Value} {R : Ending → Prop} (hkk : kk ≤ kk')
    (hc : ∀ vw ve vm k c, BkW w base bb vw ve vm Wb Eb k c Nb → k ≤ kk → Calls Tryz.prog f args w fun e w' => R e ∧ ∃ vw' ve' vm' k' c', BkW w' base bb vw' ve' vm' W' E' k' c' N' ∧ k' ≤ kk' ∧ FrM w w' bb vw ve vm vw' ve' vm') :
    Calls Tryz.prog f args w fun e w' => R e ∧ ∃ O', PairW w' base bb mb kk' O' W' E' N' Wm Em Nm ∧ FrO w w' O O' := by
  obtain ⟨vw, ve, vm, k, c, uw, ue, um, k', c', h1, h2, h3, h4, h5, h6⟩ := h
  refine (hc vw ve vm k c h1 h5).mono ?_
  rintro e w' ⟨hR, vw', ve', vm', k2, c2, g1, g2, f⟩
  refine ⟨hR, fun b => OwnM bb vw' ve' vm' b ∨ OwnM mb uw ue um b, ⟨vw', ve', vm', k2, c2, uw, ue, um, k', c', g1, h2.keepF (fun b hb => f.keep b (h2.own_lt hb) (fun e => h3 b e hb)) f.size, fun b hb hm => ?_, fun b => Iff.rfl, g2, by omega⟩, ⟨f.os, f.tape, f.output, f.size, fun b hb hn => f.keep b hb (fun e => hn ((h4 b).2 (.inl e))), fun b hb => ?_⟩⟩
  · rcases f.own b hb with e | e
    · exact h3 b e hm
    · have := h2.own_lt hm; omega
  · rcases hb with e | e
    · exact (f.own b e).imp (fun e => (h4 b).2 (.inl e)) id
    · exact .inl ((h4 b).2 (.inr e))
/-- A method of the model. -/
theorem PairW.stepM (h : PairW w base bb mb kk O Wb Eb Nb Wm Em Nm) {f : FuncId} {args : Array Value} {R : Ending → Prop} (hkk : kk ≤ kk')
    (hc : ∀ vw ve vm k c, MoW w base mb vw ve vm Wm Em k c Nm → k ≤ kk → Calls Tryz.prog f args w fun e w' => R e ∧ ∃ vw' ve' vm' k' c', MoW w' base mb vw' ve' vm' W' E' k' c' N' ∧ k' ≤ kk' ∧ FrM w w' mb vw ve vm vw' ve' vm') :
    Calls Tryz.prog f args w fun e w' => R e ∧ ∃ O', PairW w' base bb mb kk' O' Wb Eb Nb W' E' N' ∧ FrO w w' O O' := by
  obtain ⟨vw, ve, vm, k, c, uw, ue, um, k', c', h1, h2, h3, h4, h5, h6⟩ := h
  refine (hc uw ue um k' c' h2 h6).mono ?_
  rintro e w' ⟨hR, vw', ve', vm', k2, c2, g1, g2, f⟩
  refine ⟨hR, fun b => OwnM bb vw ve vm b ∨ OwnM mb vw' ve' vm' b, ⟨vw, ve, vm, k, c, vw', ve', vm', k2, c2, h1.keepF (fun b hb => f.keep b (h1.own_lt hb).1 (fun e => h3 b hb e)) f.size, g1, fun b hb hm => ?_, fun b => Iff.rfl, by omega, g2⟩, ⟨f.os, f.tape, f.output, f.size, fun b hb hn => f.keep b hb (fun e => hn ((h4 b).2 (.inr e))), fun b hb => ?_⟩⟩
  · rcases f.own b hm with e | e
    · exact h3 b hb e
    · have := (h1.own_lt hb).1; omega
  · rcases hb with e | e
    · exact .inl ((h4 b).2 (.inl e))
    · exact (f.own b e).imp (fun e => (h4 b).2 (.inr e)) id
end
section
variable {w : World} {base bb mb kk : Nat} {O : Nat → Prop} {Wb Wm : List Wa} {Eb Em : List Ev} {Nb Nm : Int → Option Int}
theorem padd_b (h : PairW w base bb mb kk O Wb Eb Nb Wm Em Nm) (x : Wa) (hs : WsOk Wb) (hl : Wb.length ≤ 1000) : Calls Tryz.prog 16 #[.pointer (some ⟨bb, 0, none⟩), waV x] w fun e w' => e = .returned (.int .i64 (addE Wb x)) ∧ ∃ O', PairW w' base bb mb kk O' (addL Wb x) Eb Nb Wm Em Nm ∧ FrO w w' O O' :=
  h.stepB (Nat.le_refl _) fun vw ve vm k c hb hk => (add_frm base bb vw ve vm Wb Eb k c Nb x w hb hs.mono hl).mono fun e w' ⟨h1, v', h2, _, _, h5⟩ => ⟨h1, v', ve, vm, k, c, h2, hk, h5⟩
theorem padd_m (h : PairW w base bb mb kk O Wb Eb Nb Wm Em Nm) (x : Wa) (hs : WsOk Wm) (hl : Wm.length ≤ 1000) (hx : x.ses ≤ 281474976710655) : Calls Tryz.prog 20 #[.pointer (some ⟨mb, 0, none⟩), waV x] w fun e w' => e = .returned (.int .i64 (addE Wm x)) ∧ ∃ O', PairW w' base bb mb kk O' Wb Eb Nb (addL Wm x) Em Nm ∧ FrO w w' O O' :=
  h.stepM (Nat.le_refl _) fun vw ve vm k c hb hk => (madd_any base mb vw ve vm Wm Em k c Nm x w hb hs hl hx).mono fun e w' ⟨h1, v', h2, h5⟩ => ⟨h1, v', ve, vm, k, c, h2, hk, h5⟩
theorem pfire_b (h : PairW w base bb mb kk O Wb Eb Nb Wm Em Nm) (s up last : ByteArray) (what when : Int) (hup : ∀ W : World, Calls Tryz.prog 48 #[.string s] W fun e w' => e = .returned (.tuple #[.string up, .string last]) ∧ ∃ n, w' = W.drewN n) (hses : ∀ x ∈ Wb, InR x.ses) (hlw : Wb.length ≤ 40) (hle : Eb.length ≤ 50000) (hk : kk < 10000000) :
    Calls Tryz.prog 17 #[.pointer (some ⟨bb, 0, none⟩), .string s, .int .i64 what, .int .i64 when] w fun e w' => e = .returned (.tuple #[]) ∧ ∃ O', PairW w' base bb mb (kk + 40) O' (fireW s up what Wb) (fireS s up what when Wb (Eb, Nb)).1 (fireS s up what when Wb (Eb, Nb)).2 Wm Em Nm ∧ FrO w w' O O' :=
  h.stepB (Nat.le_add_right _ _) fun vw ve vm k c hb hk' => (fire_frm base bb vw ve vm Wb Eb k c Nb s up last what when w hb hup hses (by omega) hle (by omega)).mono fun e w' ⟨h1, a, b, d, k', c', h2, h3, _, h5⟩ => ⟨h1, a, b, d, k', c', h2, by omega, h5⟩
theorem pfire_m (h : PairW w base bb mb kk O Wb Eb Nb Wm Em Nm) (s up last : ByteArray) (what when : Int) (hup : ∀ W : World, Calls Tryz.prog 48 #[.string s] W fun e w' => e = .returned (.tuple #[.string up, .string last]) ∧ ∃ n, w' = W.drewN n) (hses : ∀ x ∈ Wm, InR x.ses) (hlw : Wm.length ≤ 40) (hle : Em.length ≤ 50000) (hk : kk < 10000000) (hw3 : what = 1 ∨ what = 2 ∨ what = 3) :
    Calls Tryz.prog 21 #[.pointer (some ⟨mb, 0, none⟩), .string s, .int .i64 what, .int .i64 when] w fun e w' => e = .returned (.tuple #[]) ∧ ∃ O', PairW w' base bb mb (kk + 40) O' Wb Eb Nb (fireW s up what Wm) (fireS s up what when Wm (Em, Nm)).1 (fireS s up what when Wm (Em, Nm)).2 ∧ FrO w w' O O' :=
  h.stepM (Nat.le_add_right _ _) fun vw ve vm k c hb hk' => (mfire_any base mb vw ve vm Wm Em k c Nm s up last what when w hb hup hses (by omega) hle (by omega) hw3).mono fun e w' ⟨h1, a, b, d, k', c', h2, h3, h5⟩ => ⟨h1, a, b, d, k', c', h2, by omega, h5⟩
theorem pnoted_b (h : PairW w base bb mb kk O Wb Eb Nb Wm Em Nm) (s no : Int) (hl : Eb.length ≤ 100000) : Calls Tryz.prog 22 #[.pointer (some ⟨bb, 0, none⟩), .int .i64 s, .int .i64 no] w fun e w' => e = .returned (.tuple #[]) ∧ ∃ O', PairW w' base bb mb kk O' Wb (Eb.filter fun x => !notB s no x) Nb Wm Em Nm ∧ FrO w w' O O' :=
  h.stepB (Nat.le_refl _) fun vw ve vm k c hb hk => (noted_any base bb vw ve vm Wb Eb k c Nb s no w hb hl).mono fun e w' ⟨h1, v', h2, _, h5⟩ => ⟨h1, vw, v', vm, k, c, h2, hk, h5⟩
theorem plet_m (h : PairW w base bb mb kk O Wb Eb Nb Wm Em Nm) (fn : Nat) (cb : Array Value) (eg : ∀ args w, (callFunc fn args).run Tryz.prog w = .ok (.enter fn args) w) (p : Ev → Bool) (hl : Em.length ≤ 100000) (hp : ∀ W x, Below w.heap.size w W → Calls Tryz.prog fn (#[evV x] ++ cb) W fun e W' => e = .returned (.bool (p x)) ∧ Below W.heap.size W W') :
    Calls Tryz.prog 23 #[.pointer (some ⟨mb, 0, none⟩), .func (.func fn) #[] cb] w fun e w' => e = .returned (.tuple #[]) ∧ ∃ O', PairW w' base bb mb kk O' Wb Eb Nb Wm (Em.filter fun x => !p x) Nm ∧ FrO w w' O O' :=
  h.stepM (Nat.le_refl _) fun vw ve vm k c hb hk => (mlet_any fn cb eg p base mb vw ve vm Wm Em k c Nm w hb hl hp).mono fun e w' ⟨h1, v', h2, h5⟩ => ⟨h1, vw, v', vm, k, c, h2, hk, h5⟩
theorem pdrop_b (h : PairW w base bb mb kk O Wb Eb Nb Wm Em Nm) (s : Int) (hs : InR s) (hlw : Wb.length ≤ 100000) (hl : Eb.length ≤ 100000) : Calls Tryz.prog 25 #[.pointer (some ⟨bb, 0, none⟩), .int .i64 s] w fun e w' => e = .returned (.tuple #[]) ∧ ∃ O', PairW w' base bb mb kk O' (Wb.filter fun x => !(x.ses == s)) (Eb.filter fun x => !(x.ses == s)) (updN Nb s none) Wm Em Nm ∧ FrO w w' O O' :=
  h.stepB (Nat.le_refl _) fun vw ve vm k c hb hk => (drop_any base bb vw ve vm Wb Eb k c Nb s w hb hs hlw hl).mono fun e w' ⟨h1, a, b, c', h2, _, h5⟩ => ⟨h1, a, b, vm, k, c', h2, hk, h5⟩
theorem pdrop_m (h : PairW w base bb mb kk O Wb Eb Nb Wm Em Nm) (s : Int) (hs : InR s) (hlw : Wm.length ≤ 100000) (hl : Em.length ≤ 100000) : Calls Tryz.prog 26 #[.pointer (some ⟨mb, 0, none⟩), .int .i64 s] w fun e w' => e = .returned (.tuple #[]) ∧ ∃ O', PairW w' base bb mb kk O' Wb Eb Nb (Wm.filter fun x => !(x.ses == s)) (Em.filter fun x => !(x.ses == s)) (updN Nm s none) ∧ FrO w w' O O' :=
  h.stepM (Nat.le_refl _) fun vw ve vm k c hb hk => (mdrop_any base mb vw ve vm Wm Em k c Nm s w hb hs hlw hl).mono fun e w' ⟨h1, a, b, c', h2, h5⟩ => ⟨h1, a, b, vm, k, c', h2, hk, h5⟩
end
end Go.Proofs.YtbbdokfankgllaaGreatDoor
