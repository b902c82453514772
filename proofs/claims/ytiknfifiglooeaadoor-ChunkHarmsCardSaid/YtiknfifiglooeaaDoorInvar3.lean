/- Steps of a region that draws its order, behind guards that hold or do not (Invar, Invar2). -/
import Derived.Test.YtiknfifiglooeaaDoorDevW
namespace Go.Proofs.YtiknfifiglooeaaDoor
open Go Go.RowKit
set_option linter.unusedVariables false
set_option maxRecDepth 100000

theorem size_putAll (x : Nat → Value) : ∀ (os : List Oper) (n : Nat) (a : Act), (putAll x os n a).tmps.size = a.tmps.size := by
  intro os
  induction os with
  | nil => intro n a; rfl
  | cons o os ih =>
    intro n a
    show (putAll x os (n + 1) (a.put o.dst (x n))).tmps.size = a.tmps.size
    rw [ih, size_put]
/-- What a guard reads of a value. -/
def saysOf : Value → Option Bool
  | .bool b => some b
  | _ => none
/-- Is the operation wanted, by its guard? -/
def WantedIs (l : List Oper) (a : Act) (o : Oper) (r : Bool) : Prop := Region.wanted o (yielded l.toArray a.tmps) = r
theorem wanted0 {l : List Oper} {a : Act} {o : Oper} (h : o.guard = none) : WantedIs l a o true := by simp [WantedIs, Region.wanted, h]
theorem wanted_at {x : Nat → Value} {os : List Oper} {a : Act} {o : Oper} (t j : Nat) (want : Bool) (v : Value) (r : Bool) (hg : o.guard = some (j, want)) (h : (apartB os && (match os[j]? with | some o => o.dst == some t | none => false)) = true) (ht : t < a.tmps.size) (hv : x j = v)
    (hr : (saysOf v == some want) = r) : WantedIs os (putAll x os 0 a) o r := by
  have he := eval_at (x := x) (os := os) (a := a) t j v h ht hv
  rw [Bool.and_eq_true] at h
  have hd : ((os.toArray[j]?).bind (·.dst)) = some t := by
    cases hj : os[j]? with
    | none => rw [hj] at h; simp at h
    | some p =>
      rw [hj] at h
      simp [hj]
      simpa using h.2
  have hs : (putAll x os 0 a).tmps[t]? = some v := by
    have ht' : t < (putAll x os 0 a).tmps.size := by rw [size_putAll]; exact ht
    have : (putAll x os 0 a).tmps.getD t undef = v := he
    rw [Array.getElem?_eq_getElem ht']
    simpa [Array.getD, ht'] using this
  unfold WantedIs Region.wanted
  rw [hg]
  simp only
  have hy : yielded os.toArray (putAll x os 0 a).tmps j = saysOf v := by
    unfold yielded
    rw [hd]
    simp only [Option.bind_some, hs]
    cases v <;> rfl
  rw [hy]
  exact hr

/-- One operation's turn, behind a name that is not opened. -/
structure Step (P : Program) (l : List Oper) (Q : Exit → Act → World → Prop) (i : Nat) (K : Act → World → Prop) (a : Act) (w : World) : Prop where
  out : wpOp P l.toArray Q i K a w
/-- The law of Invar, by 'Step'. -/
theorem wp_region_steps {P : Program} {Q : Exit → Act → World → Prop} {l : List Oper} {id : Nat} {a0 : Act} {w0 : World} (F : Nat → Value → World → Prop) (R : World → World → Prop) (hm : P.follows .mixedOrders = true)
    (hap : apartB l = true) (hb : backB l.toArray = true)
    (hrefl : R w0.drew w0.drew) (hkeep : ∀ i v w w', R w0.drew w → F i v w → R w w' → F i v w') (htrans : ∀ u v w, R u v → R v w → R u w)
    (hstep : ∀ i o, l[i]? = some o → ∀ (x : Nat → Value) (w : World), R w0.drew w → (∀ j, Region.waitsFor .any l.toArray i j = true → F j (x j) w) →
      Step P l Q i (fun a' w' => ∃ v, a' = (putAll x l 0 a0).put o.dst v ∧ F i v w' ∧ R w w') (putAll x l 0 a0) w)
    (hend : ∀ (x : Nat → Value) (w : World), R w0.drew w → (∀ i, i < l.length → F i (x i) w) → Q .normal (putAll x l 0 a0) w) :
    (Code.region id l.toArray true).wp P Q a0 w0 :=
  wp_region_facts F R hm hap hb hrefl hkeep htrans (fun i o ho x w hR hF => (hstep i o ho x w hR hF).out) hend

section
variable {P : Program} {Q : Exit → Act → World → Prop} {l : List Oper}
theorem gstep_value {i : Nat} {o : Oper} {a : Act} {w : World} {K : Act → World → Prop} (ho : l[i]? = some o) (hw : WantedIs l a o true) (v : Value) (w' : World)
    (hr : (execOp a.eval o).run P w = .ok (.value v) w') (h : K (a.put o.dst v) w') : Step P l Q i K a w := by
  refine ⟨?_⟩
  unfold wpOp
  rw [show l.toArray[i]? = some o by simpa using ho]
  simp only [show Region.wanted o (yielded l.toArray a.tmps) = true from hw, if_true]
  left
  unfold Oper.wp
  rw [hr]
  exact h
theorem gstep_enter {i : Nat} {o : Oper} {a : Act} {w : World} {K : Act → World → Prop} (ho : l[i]? = some o) (hw : WantedIs l a o true) (f : FuncId) (args : Array Value) (w' : World)
    (hr : (execOp a.eval o).run P w = .ok (.enter f args) w') (h : Calls P f args w' fun e w'' => ∃ v, e = .returned v ∧ K (a.put o.dst v) w'') : Step P l Q i K a w := by
  refine ⟨?_⟩
  unfold wpOp
  rw [show l.toArray[i]? = some o by simpa using ho]
  simp only [show Region.wanted o (yielded l.toArray a.tmps) = true from hw, if_true]
  left
  unfold Oper.wp
  rw [hr]
  refine Calls.mono h ?_
  rintro e w'' ⟨v, rfl, hk⟩
  exact hk
theorem gstep_skip {i : Nat} {o : Oper} {a : Act} {w : World} {K : Act → World → Prop} (ho : l[i]? = some o) (hw : WantedIs l a o false) (h : K (a.put o.dst undef) w) : Step P l Q i K a w := by
  refine ⟨?_⟩
  unfold wpOp
  rw [show l.toArray[i]? = some o by simpa using ho]
  simp only [show Region.wanted o (yielded l.toArray a.tmps) = false from hw, Bool.false_eq_true, if_false]
  exact h
theorem gstep_move {i : Nat} {o : Oper} {a : Act} {w : World} {K : Act → World → Prop} (ho : l[i]? = some o) (hw : WantedIs l a o true) (s : Operand) (hop : o.op = .move s) (v : Value) (he : a.eval s = v) (h : K (a.put o.dst v) w) : Step P l Q i K a w :=
  gstep_value ho hw v w (by simp only [execOp, hop, he, Sem.run_pure]) h
theorem gstep_assign {i : Nat} {o : Oper} {a : Act} {w : World} {K : Act → World → Prop} (ho : l[i]? = some o) (hw : WantedIs l a o true) (s : Operand) (hop : o.op = .assign s) (v : Value) (he : a.eval s = v) (h : K (a.put o.dst v) w) : Step P l Q i K a w :=
  gstep_value ho hw v w (by simp only [execOp, hop, he, Sem.run_pure]) h
theorem gstep_nil {i : Nat} {o : Oper} {a : Act} {w : World} {K : Act → World → Prop} (ho : l[i]? = some o) (hw : WantedIs l a o true) (s : Operand) (hop : o.op = .nilCheck s) (p : Addr) (he : a.eval s = .pointer (some p)) (h : K (a.put o.dst (.pointer (some p))) w) : Step P l Q i K a w :=
  gstep_value ho hw _ w (by simp only [execOp, hop, he, Sem.run_pure]) h
theorem gstep_pick {i : Nat} {o : Oper} {a : Act} {w : World} {K : Act → World → Prop} (ho : l[i]? = some o) (hw : WantedIs l a o true) (s1 s2 s3 : Operand) (hop : o.op = .pick s1 s2 s3) (b : Bool) (he : a.eval s1 = .bool b) (v : Value) (hv : (if b = true then a.eval s2 else a.eval s3) = v) (h : K (a.put o.dst v) w) : Step P l Q i K a w :=
  gstep_value ho hw v w (by simp only [execOp, hop, he, asBool, Sem.run_bind, Sem.run_pure, Result.andThen_ok, hv]) h
theorem gstep_load {i : Nat} {o : Oper} {a : Act} {w : World} {K : Act → World → Prop} (ho : l[i]? = some o) (hw : WantedIs l a o true) (t : TypeId) (s : Operand) (hop : o.op = .load t s) (v : Value) (he : a.eval s = v) (v' : Value)
    (hr : (Instr.loadAt t v).run P w = .ok v' w) (h : K (a.put o.dst v') w) : Step P l Q i K a w :=
  gstep_value ho hw v' w (by simp only [execOp, hop, he, Sem.run_bind, Sem.run_pure, hr, Result.andThen_ok]) h
theorem gstep_field {i : Nat} {o : Oper} {a : Act} {w : World} {K : Act → World → Prop} (ho : l[i]? = some o) (hw : WantedIs l a o true) (t : TypeId) (s : Operand) (f : Nat) (hop : o.op = .fieldAddr t s f) (v : Value) (he : a.eval s = v) (v' : Value)
    (hr : (Instr.fieldAt t v f).run P w = .ok v' w) (h : K (a.put o.dst v') w) : Step P l Q i K a w :=
  gstep_value ho hw v' w (by simp only [execOp, hop, he, Sem.run_bind, Sem.run_pure, hr, Result.andThen_ok]) h
theorem gstep_index {i : Nat} {o : Oper} {a : Act} {w : World} {K : Act → World → Prop} (ho : l[i]? = some o) (hw : WantedIs l a o true) (t : TypeId) (s1 s2 : Operand) (hop : o.op = .indexAddr t s1 s2) (v1 v2 : Value) (he1 : a.eval s1 = v1) (he2 : a.eval s2 = v2) (v' : Value)
    (hr : (Instr.indexAt t v1 v2).run P w = .ok v' w) (h : K (a.put o.dst v') w) : Step P l Q i K a w :=
  gstep_value ho hw v' w (by simp only [execOp, hop, he1, he2, Sem.run_bind, Sem.run_pure, hr, Result.andThen_ok]) h
theorem gstep_bin {i : Nat} {o : Oper} {a : Act} {w : World} {K : Act → World → Prop} (ho : l[i]? = some o) (hw : WantedIs l a o true) (b : BinOp) (t u : TypeId) (s1 s2 : Operand) (hop : o.op = .binOp b t s1 s2 u) (v1 v2 : Value) (he1 : a.eval s1 = v1) (he2 : a.eval s2 = v2) (v' : Value)
    (hr : (do eqGuard b t s1 s2 v1 v2; binOp b t v1 v2 : Sem Value).run P w = .ok v' w) (h : K (a.put o.dst v') w) : Step P l Q i K a w :=
  gstep_value ho hw v' w (by rw [show execOp a.eval o = (do pure (.value (← (do eqGuard b t s1 s2 v1 v2; binOp b t v1 v2 : Sem Value))) : Sem Next) by simp only [execOp, hop, he1, he2]]; simp only [Sem.run_bind, Sem.run_pure] at hr ⊢; rw [hr]; rfl) h
theorem gstep_not {i : Nat} {o : Oper} {a : Act} {w : World} {K : Act → World → Prop} (ho : l[i]? = some o) (hw : WantedIs l a o true) (t : TypeId) (s : Operand) (hop : o.op = .unOp .not t s) (b : Bool) (he : a.eval s = .bool b) (h : K (a.put o.dst (.bool (!b))) w) : Step P l Q i K a w :=
  gstep_value ho hw _ w (by simp only [execOp, hop, he, Op.unary, Sem.run_bind, Sem.run_pure, Result.andThen_ok]) h
theorem gstep_call {i : Nat} {o : Oper} {a : Act} {w : World} {K : Act → World → Prop} (ho : l[i]? = some o) (hw : WantedIs l a o true) (f : FuncId) (s : Operand) (ts : Array TypeId) (hop : o.op = .call { callee := .value (.func f), args := #[s], argTypes := ts }) (v : Value) (he : a.eval s = v) (hf : (callFunc f #[v]).run P w = .ok (.enter f #[v]) w)
    (h : Calls P f #[v] w fun e w'' => ∃ v, e = .returned v ∧ K (a.put o.dst v) w'') : Step P l Q i K a w :=
  gstep_enter ho hw f #[v] w (by simp only [execOp, hop, resolve, invoke, Deferred.ofValue, show a.eval (.func f) = .func (.func f) #[] #[] from rfl, List.map_toArray, List.map_cons, List.map_nil, he, Sem.run_bind, Sem.run_pure, Result.andThen_ok]; simpa using hf) h
theorem gstep_call2 {i : Nat} {o : Oper} {a : Act} {w : World} {K : Act → World → Prop} (ho : l[i]? = some o) (hw : WantedIs l a o true) (f : FuncId) (s1 s2 : Operand) (ts : Array TypeId) (hop : o.op = .call { callee := .value (.func f), args := #[s1, s2], argTypes := ts }) (v1 v2 : Value) (he1 : a.eval s1 = v1) (he2 : a.eval s2 = v2) (hf : (callFunc f #[v1, v2]).run P w = .ok (.enter f #[v1, v2]) w)
    (h : Calls P f #[v1, v2] w fun e w'' => ∃ v, e = .returned v ∧ K (a.put o.dst v) w'') : Step P l Q i K a w :=
  gstep_enter ho hw f #[v1, v2] w (by simp only [execOp, hop, resolve, invoke, Deferred.ofValue, show a.eval (.func f) = .func (.func f) #[] #[] from rfl, List.map_toArray, List.map_cons, List.map_nil, he1, he2, Sem.run_bind, Sem.run_pure, Result.andThen_ok]; simpa using hf) h
theorem gstep_call3 {i : Nat} {o : Oper} {a : Act} {w : World} {K : Act → World → Prop} (ho : l[i]? = some o) (hw : WantedIs l a o true) (f : FuncId) (s1 s2 s3 : Operand) (ts : Array TypeId) (hop : o.op = .call { callee := .value (.func f), args := #[s1, s2, s3], argTypes := ts }) (v1 v2 v3 : Value) (he1 : a.eval s1 = v1) (he2 : a.eval s2 = v2) (he3 : a.eval s3 = v3) (hf : (callFunc f #[v1, v2, v3]).run P w = .ok (.enter f #[v1, v2, v3]) w)
    (h : Calls P f #[v1, v2, v3] w fun e w'' => ∃ v, e = .returned v ∧ K (a.put o.dst v) w'') : Step P l Q i K a w :=
  gstep_enter ho hw f #[v1, v2, v3] w (by simp only [execOp, hop, resolve, invoke, Deferred.ofValue, show a.eval (.func f) = .func (.func f) #[] #[] from rfl, List.map_toArray, List.map_cons, List.map_nil, he1, he2, he3, Sem.run_bind, Sem.run_pure, Result.andThen_ok]; simpa using hf) h
theorem gstep_store {i : Nat} {o : Oper} {a : Act} {w : World} {K : Act → World → Prop} (ho : l[i]? = some o) (hw : WantedIs l a o true) (t : TypeId) (s1 s2 : Operand) (hop : o.op = .store t s1 s2) (v1 v2 : Value) (he1 : a.eval s1 = v1) (he2 : a.eval s2 = v2) (w' : World)
    (hr : (Instr.storeAt t v1 v2).run P w = .ok () w') (h : K (a.put o.dst undef) w') : Step P l Q i K a w := by
  refine ⟨?_⟩
  unfold wpOp
  rw [show l.toArray[i]? = some o by simpa using ho]
  simp only [show Region.wanted o (yielded l.toArray a.tmps) = true from hw, if_true]
  left
  unfold Oper.wp
  rw [show (execOp a.eval o).run P w = .ok .skip w' by simp only [execOp, hop, he1, he2, Sem.run_bind, Sem.run_pure, hr, Result.andThen_ok]]
  exact h
theorem gstep_build {i : Nat} {o : Oper} {a : Act} {w : World} {K : Act → World → Prop} (ho : l[i]? = some o) (hw : WantedIs l a o true) (t : TypeId) (hop : o.op = .build t #[]) (v' : Value)
    (hr : (Instr.build t #[]).run P w = .ok v' w) (h : K (a.put o.dst v') w) : Step P l Q i K a w :=
  gstep_value ho hw v' w (by simp only [execOp, hop, List.map_toArray, List.map_nil, Sem.run_bind, Sem.run_pure, hr, Result.andThen_ok]) h
end
end Go.Proofs.YtiknfifiglooeaaDoor
