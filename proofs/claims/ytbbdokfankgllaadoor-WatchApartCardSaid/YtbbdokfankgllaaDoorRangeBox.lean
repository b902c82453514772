/- A law for a range over a function whose iterator stores into one box of its own (strings.SplitSeq): what the caller owes. No conditions beyond those in each statement. -/
import Derived.RangeFuncNested
import Derived.RangeFuncBound
import Derived.RangeFuncCalls
import Derived.RangeFuncLeaves
import Derived.Shelf.Abstract
import Derived.WalkKit
namespace Go.Proofs.YtbbdokfankgllaaDoor
open Go Go.RowKit Go.Shelf
set_option linter.unusedVariables false

/-- The iterator's word: it turns its own box Bs, and makes blocks; else it keeps all. -/
def SeqBox {α : Type} (F : Fence) (n : Nat) (P : Program) (g : Nat) (lb : Array Value) (encs : α → Array Value) (Kp : World → World → Prop) (S Sp : List α → Prop) (Bs : Nat) (w : World) : Prop :=
  ∀ (l : Nat) (J Jx : List α → World → Prop) (W : World), Below w.heap.size w W →
    (∀ s A B, J s A → A.grownBy B (some Bs) → J s B) → (∀ s A B, Jx s A → A.grownBy B (some Bs) → Jx s B) →
    (∀ pre x W1, J pre W1 → YieldAt F (n - 1) P l (encs x) W1 fun e W' =>
      (e = .returned (.bool true) ∧ J (pre ++ [x]) W' ∧ Kp W1 W') ∨ (e = .returned (.bool false) ∧ Jx (pre ++ [x]) W')) →
    J [] W →
    CallsIn F n P g (#[.func (.yield l) #[] #[]] ++ lb) W fun e W' => (∃ v, e = .returned v) ∧ ((∃ xs, S xs ∧ J xs W') ∨ (∃ pre, Sp pre ∧ Jx pre W'))
/-- How a round's body may end. -/
def boxPost (B : Nat) (Kp : World → World → Prop) (I Ix : World → Prop) (W : World) : Exit → Act → World → Prop
  | .normal, _, W' => KeepsFrom B W W' ∧ Kp W W' ∧ I W'
  | .ret, _, W' => KeepsFrom B W W' ∧ Ix W'
  | _, _, _ => False
/-- The loop's record. -/
def boxRec (fn : FuncId) (tmps : Array Value) (ps : Array Tmp) (assign body : Code) (d : Nat) (st : LoopState) (pe : Option Code) : Loop := { state := st, pending := pe, fn := fn, tmps := tmps, params := ps, assign := assign, body := body, defers := d }
/-- Two blocks of the loop's book-keeping: the record and the list of deferred calls. -/
def Books (h : Nat) (r : Loop) (W : World) : Prop := W.heap[h + 1]? = some (.loop r) ∧ W.heap[h]? = some (.deferred (some []))
theorem Books.grown {h Bs : Nat} {r : Loop} {A B : World} (hb : Books h r A) (hB : Bs < h) (hg : A.grownBy B (some Bs)) : Books h r B :=
  have l1 := (Array.getElem?_eq_some_iff.1 hb.1).1
  ⟨(hg.block _ l1 (by simp; omega)).trans hb.1, (hg.block _ (by omega) (by simp; omega)).trans hb.2⟩
theorem Books.put {h : Nat} {r : Loop} (r' : Loop) {A : World} (hb : Books h r A) : Books h r' (A.putObj (h + 1) (.loop r')) :=
  ⟨World.putObj_heap_same (Array.getElem?_eq_some_iff.1 hb.1).1, (World.putObj_heap_other (by omega)).trans hb.2⟩
theorem Books.keep {h : Nat} {r : Loop} {A B : World} (hb : Books h r A) (k : KeepsFrom h A B) : Books h r B :=
  ⟨k.same _ _ (by omega) hb.1 rfl, k.same _ _ (Nat.le_refl _) hb.2 rfl⟩
variable {F : Fence} {n : Nat} {P : Program}
theorem wpIn_range_box {α : Type} {g : Operand} {ps : Array Tmp} {assign body : Code} {Q : Exit → Act → World → Prop} {a : Act} {w : World}
    (hro : F.round = none) (h1 : 1 ≤ n) {gf : Nat} {lb : Array Value} (hg : a.eval g = .func (.func gf) #[] lb) (hFg : F.fn gf) (eg : ∀ args w, (callFunc gf args).run P w = .ok (.enter gf args) w)
    {encs : α → Array Value} {Kp : World → World → Prop} {S Sp : List α → Prop} {Bs : Nat} (hseq : SeqBox F (n - 1) P gf lb encs Kp S Sp Bs w) (hBs : Bs < w.heap.size)
    (hKt : ∀ {A B C : World}, Kp A B → Kp B C → Kp A C) (hKb : ∀ (W : World) (l : Nat) (o o' : Obj), w.heap.size ≤ l → W.heap[l]? = some o → o.isCells = false → o.isWalk = false → Kp W (W.putObj l o')) (hps : ∀ x, (encs x).size = ps.size)
    (I Ix : List α → World → Prop)
    (hI : ∀ s A B row, I s A → A.grownBy B row → (∀ r, row = some r → r = Bs ∨ w.heap.size ≤ r) → I s B)
    (hIx : ∀ s A B row, Ix s A → A.grownBy B row → (∀ r, row = some r → r = Bs ∨ w.heap.size ≤ r) → Ix s B) (h0 : I [] w) (a₁ : α → Act)
    (hassign : ∀ (l : Nat) (x : α) (W : World) (K : Act → World → Prop), K (a₁ x) W →
      assign.wpIn (F.inRound l) (n - 1 - 1) P (Exit.then K (fun _ _ _ => False)) { tmps := (ps.zip (encs x)).foldl (fun t (p, v) => t.setIfInBounds p v) a.tmps, defers := [] } W)
    (hbody : ∀ (l : Nat) (pre : List α) (x : α) (W : World), w.heap.size ≤ l → I pre W → body.wpIn (F.inRound l) (n - 1 - 1) P (boxPost w.heap.size Kp (I (pre ++ [x])) (Ix (pre ++ [x])) W) (a₁ x) W)
    (hdone : ∀ (D : Nat) (xs : List α) (W : World), w.heap.size ≤ D → S xs → I xs W → W.heap[D]? = some (.deferred (some [])) → Q .normal { a with defers := { target := .collected D, args := #[] } :: a.defers } W)
    (hstop : ∀ (D : Nat) (pre : List α) (W : World), w.heap.size ≤ D → Sp pre → Ix pre W → W.heap[D]? = some (.deferred (some [])) → Code.ret.wpIn F n P Q { a with defers := { target := .collected D, args := #[] } :: a.defers } W) :
    (Code.rangeFunc g ps assign body).wpIn F n P Q a w := by
  refine wpIn_rangeFunc ?_
  intro fn hfn
  rw [hro]
  obtain ⟨rc, hrc⟩ : ∃ rc : LoopState → Option Code → Loop, rc = boxRec fn a.tmps ps assign body w.heap.size := ⟨_, rfl⟩
  have put_I : ∀ {s : List α} {W : World} (o' : Obj), I s W → I s (W.putObj (w.heap.size + 1) o') := fun o' hs =>
    hI _ _ _ (some _) hs (grownBy_putObj' _ _ o') (fun r e => by cases e; exact .inr (by omega))
  have put_X : ∀ {s : List α} {W : World} (o' : Obj), Ix s W → Ix s (W.putObj (w.heap.size + 1) o') := fun o' hs =>
    hIx _ _ _ (some _) hs (grownBy_putObj' _ _ o') (fun r e => by cases e; exact .inr (by omega))
  obtain ⟨W1, hW1⟩ : ∃ W1, W1 = (w.alloc (.deferred (some []))).alloc (.loop (rc .ready none)) := ⟨_, rfl⟩
  have hb1 : Below w.heap.size w W1 := by rw [hW1]; exact ((Below.refl _ w).alloc (Nat.le_refl _) _).alloc (by simp) _
  have hbk : Books w.heap.size (rc .ready none) W1 := by
    rw [hW1]
    refine ⟨?_, (Below.heap_alloc _ _ _ (by simp)).trans (World.alloc_heap_new w _)⟩
    have := World.alloc_heap_new (w.alloc (.deferred (some []))) (.loop (rc .ready none))
    rwa [World.size_alloc] at this
  have hI1 : I [] W1 := hI _ _ _ none h0 ⟨hb1.os, hb1.tape, hb1.output, hb1.size, fun k hk _ => hb1.block k hk⟩ (fun r e => by cases e)
  refine ⟨w.heap.size + 1, [{ target := .collected w.heap.size, args := #[] }], W1, { target := .fn (.func gf) lb, args := #[.func (.yield (w.heap.size + 1)) #[] #[]] }, W1, gf,
    #[.func (.yield (w.heap.size + 1)) #[] #[]] ++ lb, W1, ?_, ?_, ?_, ?_, fun _ => h1, ?_⟩
  · rw [hW1, hrc]; exact run_enterLoop_outer _ _ _ _ _
  · simp only [resolve, hg]
    simp [go_sem]
  · intro f' hf'; simp [Target.leads] at hf'; subst hf'; exact hFg
  · simp [invoke, go_sem, eg]
  · refine (hseq (w.heap.size + 1) (fun pre W => I pre W ∧ Books w.heap.size (rc .ready none) W) (fun pre W => Ix pre W ∧ Books w.heap.size (rc .done (some .ret)) W) W1 hb1
      (fun s A B hs hg' => ⟨hI s A B _ hs.1 hg' (fun r e => by cases e; exact .inl rfl), hs.2.grown hBs hg'⟩)
      (fun s A B hs hg' => ⟨hIx s A B _ hs.1 hg' (fun r e => by cases e; exact .inl rfl), hs.2.grown hBs hg'⟩) ?_ ⟨hI1, hbk⟩).mono ?_
    · rintro pre x W ⟨hi, hk⟩
      have hy := run_yield (P := P) (args := encs x) hk.1 (by rw [hrc]; exact hps x)
      rw [hrc] at hy
      refine ⟨fn, _, assign, body, hy, roundIn_of_wpIn hfn (hassign _ x W _ ?_)⟩
      clear hy
      refine ⟨_, run_beginRound hk.1 (by rw [hrc]; rfl), ?_⟩
      have hk2 : Books w.heap.size { rc .ready none with state := .busy } (W.putObj (w.heap.size + 1) (.loop { rc .ready none with state := .busy })) := hk.put _
      have hKp2 : Kp W (W.putObj (w.heap.size + 1) (.loop { rc .ready none with state := .busy })) := hKb _ _ _ _ (by omega) hk.1 rfl rfl
      refine wpIn_mono (hbody _ pre x _ (by omega) (put_I _ hi)) ?_
      rintro e a3 W3 hp
      cases e with
      | normal =>
        obtain ⟨hk3, hkp3, hi3⟩ := hp
        have b3 := hk2.keep hk3
        have hr := run_endRound (P := P) none b3.1
        refine ⟨_, _, hr, .inl ⟨rfl, ⟨put_I _ hi3, ?_⟩, hKt (hKt hKp2 hkp3) (hKb _ _ _ _ (by omega) b3.1 rfl rfl)⟩⟩
        have := b3.put (rc .ready none)
        rw [hrc] at this ⊢
        exact this
      | ret =>
        obtain ⟨hk3, hi3⟩ := hp
        have b3 := hk2.keep hk3
        have hr := run_endRound (P := P) (some .ret) b3.1
        refine ⟨_, _, hr, .inr ⟨rfl, put_X _ hi3, ?_⟩⟩
        have := b3.put (rc .done (some .ret))
        rw [hrc] at this ⊢
        exact this
      | exit id => exact hp.elim
      | goto t => exact hp.elim
      | panic ch => exact hp.elim
      | outgrown => exact hp.elim
    · rintro e W2 ⟨⟨v, rfl⟩, (⟨xs, hS, hi, hk⟩ | ⟨pre, hSp, hi, hk⟩)⟩
      · have hr := run_endLoop (P := P) hk.1 (by rw [hrc]; simp [boxRec])
        have hpe : (rc .ready none).pending = none := by rw [hrc]; rfl
        rw [hpe] at hr
        exact ⟨none, _, hr, hdone _ xs _ (Nat.le_refl _) hS (put_I _ hi) (hk.put _).2⟩
      · have hr := run_endLoop (P := P) hk.1 (by rw [hrc]; simp [boxRec])
        have hpe : (rc .done (some .ret)).pending = some .ret := by rw [hrc]; rfl
        rw [hpe] at hr
        exact ⟨some .ret, _, hr, hstop _ pre _ (Nat.le_refl _) hSp (put_X _ hi) (hk.put _).2⟩
end Go.Proofs.YtbbdokfankgllaaDoor
