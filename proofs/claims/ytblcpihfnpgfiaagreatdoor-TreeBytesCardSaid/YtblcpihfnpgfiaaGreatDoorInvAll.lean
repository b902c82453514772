/- A region that draws its order, walked by what each operation leaves: each operation once, whatever the order; no condition but the ones named. Steps of a region that draws its order, behind guards that hold or do not (Invar, Invar2). A region that draws its order and whose last operation waits for all the others: the facts' law, with a last step of its own (a store into a cell that the others read). A region that draws its order, walked by one invariant over what has run: each operation once, whatever the order; no condition but the ones named. A region that draws its order, with a tail that waits for all the rest: the facts' law for the operations ahead, the tail's operations one after another. -/
import Derived.StillTail
import Derived.Orders
import Derived.WalkKit
import Derived.Laws.AppendOwn
namespace Go.Proofs.YtblcpihfnpgfiaaGreatDoor
section
open Go
set_option linter.unusedVariables false

/-- The frame with x in the slots of the operations from the n-th on. -/
def putAll (x : Nat → Value) : List Oper → Nat → Act → Act
  | [], _, a => a
  | o :: os, n, a => putAll x os (n + 1) (a.put o.dst (x n))
/-- No two of the operations write one slot. -/
def apartB : List Oper → Bool
  | [] => true
  | o :: os => (match o.dst with | none => true | some d => os.all fun p => !(p.dst == some d)) && apartB os
/-- Each operation waits for earlier ones alone. -/
def backB (ops : Array Oper) : Bool :=
  (List.range ops.size).all fun j => match ops[j]? with | some o => o.after.all (fun e => !Region.binds .any e || decide (e.on < j)) | none => true
/-- What lies in the operation's slot. -/
def slotOf (a : Act) (o : Oper) : Value := match o.dst with | some d => a.tmps.getD d undef | none => undef

theorem put_self (a : Act) (o : Oper) : a.put o.dst (slotOf a o) = a := by
  unfold Act.put slotOf
  cases o.dst with
  | none => rfl
  | some d =>
    simp only
    have h : a.tmps.setIfInBounds d (a.tmps.getD d undef) = a.tmps := by
      apply Array.ext
      · simp
      · intro i h1 h2
        rw [Array.getElem_setIfInBounds (by simpa using h1)]
        split
        · rename_i hdi
          subst hdi
          simp only [Array.getD_eq_getD_getElem?, Array.getElem?_eq_getElem h2, Option.getD_some]
        · rfl
    rw [h]
theorem putAll_self (a : Act) : ∀ (os : List Oper) (n : Nat) (x : Nat → Value), (∀ j o, os[j]? = some o → x (n + j) = slotOf a o) → putAll x os n a = a := by
  intro os
  induction os with
  | nil => intro n x _; rfl
  | cons o os ih =>
    intro n x hx
    show putAll x os (n + 1) (a.put o.dst (x n)) = a
    have h0 := hx 0 o rfl
    rw [Nat.add_zero] at h0
    rw [h0, put_self]
    exact ih (n + 1) x (fun j p hp => by rw [show n + 1 + j = n + (j + 1) by omega]; exact hx (j + 1) p (by simpa using hp))
theorem putAll_congr (x y : Nat → Value) : ∀ (os : List Oper) (n : Nat) (a : Act), (∀ j, n ≤ j → x j = y j) → putAll x os n a = putAll y os n a := by
  intro os
  induction os with
  | nil => intro n a _; rfl
  | cons o os ih =>
    intro n a h
    show putAll x os (n + 1) (a.put o.dst (x n)) = putAll y os (n + 1) (a.put o.dst (y n))
    rw [h n (Nat.le_refl _)]
    exact ih (n + 1) _ (fun j hj => h j (by omega))
theorem put_put_apart (a : Act) (d e : Option Tmp) (u v : Value) (h : d = none ∨ d ≠ e) : (a.put d u).put e v = (a.put e v).put d u := by
  unfold Act.put
  cases d with
  | none => rfl
  | some d =>
    cases e with
    | none => rfl
    | some e =>
      rcases h with h | h
      · cases h
      · simp only
        rw [Array.setIfInBounds_comm]
        intro hde
        exact h (by rw [hde])
theorem put_put_same (a : Act) (d : Option Tmp) (u v : Value) : (a.put d u).put d v = a.put d v := by
  unfold Act.put
  cases d with
  | none => rfl
  | some d => simp
theorem putAll_put (x : Nat → Value) (d : Option Tmp) (v : Value) : ∀ (os : List Oper) (n : Nat) (a : Act), (d = none ∨ ∀ p ∈ os, p.dst ≠ d) → (putAll x os n a).put d v = putAll x os n (a.put d v) := by
  intro os
  induction os with
  | nil => intro n a _; rfl
  | cons o os ih =>
    intro n a h
    show (putAll x os (n + 1) (a.put o.dst (x n))).put d v = putAll x os (n + 1) ((a.put d v).put o.dst (x n))
    rw [ih (n + 1) _ (h.imp id fun h p hp => h p (List.mem_cons_of_mem _ hp))]
    congr 1
    rcases h with h | h
    · exact (put_put_apart a d o.dst v (x n) (.inl h)).symm
    · exact (put_put_apart a d o.dst v (x n) (.inr fun e => h o (List.mem_cons_self ..) e.symm)).symm
theorem putAll_set (x : Nat → Value) (v : Value) : ∀ (os : List Oper) (n i : Nat) (o : Oper) (a : Act), apartB os = true → os[i]? = some o →
    (putAll x os n a).put o.dst v = putAll (fun j => if j = n + i then v else x j) os n a := by
  intro os
  induction os with
  | nil => intro n i o a _ h; simp at h
  | cons p os ih =>
    intro n i o a hap hi
    unfold apartB at hap
    rw [Bool.and_eq_true] at hap
    cases i with
    | zero =>
      obtain rfl : p = o := by simpa using hi
      show (putAll x os (n + 1) (a.put p.dst (x n))).put p.dst v = putAll (fun j => if j = n + 0 then v else x j) os (n + 1) (a.put p.dst (if n = n + 0 then v else x n))
      rw [putAll_put x p.dst v os (n + 1) _ ?_, put_put_same, if_pos (by omega)]
      · exact putAll_congr _ _ _ _ _ (fun j hj => by rw [if_neg (by omega)])
      · cases hd : p.dst with
        | none => exact .inl rfl
        | some d =>
          refine .inr fun q hq => ?_
          have h1 := hap.1
          rw [hd] at h1
          have h2 := List.all_eq_true.1 h1 q hq
          simpa using h2
    | succ i =>
      show (putAll x os (n + 1) (a.put p.dst (x n))).put o.dst v = putAll (fun j => if j = n + (i + 1) then v else x j) os (n + 1) (a.put p.dst (if n = n + (i + 1) then v else x n))
      rw [if_neg (by omega), ih (n + 1) i o _ hap.2 (by simpa using hi)]
      exact putAll_congr _ _ _ _ _ (fun j _ => by rw [show n + 1 + i = n + (i + 1) by omega])

section
variable {P : Program} {Q : Exit → Act → World → Prop} {l : List Oper}

theorem ready_nil {ops : Array Oper} {listed : Array Bool} (hs : listed.size = ops.size) (hb : backB ops = true) (h : Region.ready .any ops listed = []) : ∀ j, j < ops.size → listed.getD j false = true := by
  intro j
  induction j using Nat.strongRecOn with
  | _ j ih =>
    intro hj
    cases hl : listed.getD j false with
    | true => rfl
    | false =>
      have hm : j ∈ Region.ready .any ops listed := by
        refine mem_ready.2 ⟨getD_in (by omega) hl, ops[j], Array.getElem?_eq_getElem hj, fun e he hbi => ?_⟩
        have h1 := List.all_eq_true.1 hb j (List.mem_range.2 hj)
        rw [Array.getElem?_eq_getElem hj] at h1
        have h2 := Array.all_eq_true'.1 h1 e he
        rw [hbi] at h2
        have h3 : e.on < j := by simpa using h2
        exact ih e.on h3 (by omega)
      rw [h] at hm
      cases hm

theorem any_of_facts {a0 : Act} {w1 : World} (F : Nat → Value → World → Prop) (R : World → World → Prop)
    (hap : apartB l = true) (hb : backB l.toArray = true)
    (hkeep : ∀ i v w w', R w1 w → F i v w → R w w' → F i v w') (htrans : ∀ u v w, R u v → R v w → R u w)
    (hstep : ∀ i o, l[i]? = some o → ∀ (x : Nat → Value) (w : World), R w1 w → (∀ j, Region.waitsFor .any l.toArray i j = true → F j (x j) w) →
      wpOp P l.toArray Q i (fun a' w' => ∃ v, a' = (putAll x l 0 a0).put o.dst v ∧ F i v w' ∧ R w w') (putAll x l 0 a0) w)
    (hend : ∀ (x : Nat → Value) (w : World), R w1 w → (∀ i, i < l.length → F i (x i) w) → Q .normal (putAll x l 0 a0) w) :
    ∀ (fuel : Nat) (listed : Array Bool) (x : Nat → Value) (w : World), listed.size = l.length → listed.toList.count false = fuel → R w1 w → (∀ j, listed.getD j false = true → F j (x j) w) →
      wpAny P .any l.toArray Q fuel listed (putAll x l 0 a0) w := by
  intro fuel
  have hfin : ∀ (listed : Array Bool) (x : Nat → Value) (w : World), listed.size = l.length → R w1 w → (∀ j, listed.getD j false = true → F j (x j) w) → Region.ready .any l.toArray listed = [] → Q .normal (putAll x l 0 a0) w :=
    fun listed x w hs hR hF h => hend x w hR (fun i hi => hF i (ready_nil (by simpa using hs) hb h i (by simpa using hi)))
  induction fuel with
  | zero =>
    intro listed x w hs hc hR hF
    have hr : Region.ready .any l.toArray listed = [] := by
      apply List.eq_nil_iff_forall_not_mem.2
      intro i hi
      obtain ⟨hun, o, ho, _⟩ := mem_ready.1 hi
      have hil : i < listed.size := by rw [hs]; have := (Array.getElem?_eq_some_iff.1 ho).1; simpa using this
      have hm : false ∈ listed.toList := by
        have e : listed[i] = false := by simpa [hil] using hun
        rw [← e]
        exact Array.getElem_mem_toList hil
      exact absurd hm (List.count_eq_zero.1 hc)
    exact ⟨hr, hfin listed x w hs hR hF hr⟩
  | succ fuel ih =>
    intro listed x w hs hc hR hF
    refine ⟨hfin listed x w hs hR hF, fun i hi => ?_⟩
    obtain ⟨hun, o, ho, hall⟩ := mem_ready.1 hi
    have hil : i < listed.size := by rw [hs]; have := (Array.getElem?_eq_some_iff.1 ho).1; simpa using this
    have ho' : l[i]? = some o := by simpa using ho
    refine wpOp_mono ?_ (hstep i o ho' x w hR (fun j hj => ?_))
    · rintro a' w' ⟨v, rfl, hFv, hRw⟩
      have e := putAll_set x v l 0 i o a0 hap ho'
      rw [e]
      refine ih _ _ _ (by simpa using hs) ?_ (htrans _ _ _ hR hRw) (fun j hj => ?_)
      · have e1 : listed[i] = false := by simpa [hil] using hun
        rw [Array.toList_setIfInBounds, List.count_set (by simpa using hil)]
        have hc2 : Array.count false listed = fuel + 1 := by simpa using hc
        simp [e1]
        omega
      · by_cases hji : j = 0 + i
        · simp only [hji, if_true]
          rw [show 0 + i = i by omega]
          exact hFv
        · simp only [hji, if_false]
          refine hkeep j _ w w' hR (hF j ?_) hRw
          rw [getD_set_ne false (by omega)] at hj
          exact hj
    · obtain ⟨oj, hoj, e, he, hbi, hon⟩ := Region.waitsFor_spec hj
      obtain rfl : oj = o := Option.some.inj (hoj.symm.trans ho)
      have := hall e he hbi
      rw [hon] at this
      exact hF j this

/-- THE LAW: each operation once, out of what those that it waits for have left; what it leaves must last (R). -/
theorem wp_region_facts {id : Nat} {a0 : Act} {w0 : World} (F : Nat → Value → World → Prop) (R : World → World → Prop) (hm : P.follows .mixedOrders = true)
    (hap : apartB l = true) (hb : backB l.toArray = true)
    (hrefl : R w0.drew w0.drew) (hkeep : ∀ i v w w', R w0.drew w → F i v w → R w w' → F i v w') (htrans : ∀ u v w, R u v → R v w → R u w)
    (hstep : ∀ i o, l[i]? = some o → ∀ (x : Nat → Value) (w : World), R w0.drew w → (∀ j, Region.waitsFor .any l.toArray i j = true → F j (x j) w) →
      wpOp P l.toArray Q i (fun a' w' => ∃ v, a' = (putAll x l 0 a0).put o.dst v ∧ F i v w' ∧ R w w') (putAll x l 0 a0) w)
    (hend : ∀ (x : Nat → Value) (w : World), R w0.drew w → (∀ i, i < l.length → F i (x i) w) → Q .normal (putAll x l 0 a0) w) :
    (Code.region id l.toArray true).wp P Q a0 w0 := by
  refine wp_region_any hm ?_
  have hx : putAll (fun j => match l[j]? with | some o => slotOf a0 o | none => undef) l 0 a0 = a0 :=
    putAll_self a0 l 0 _ (fun j o ho => by simp only [Nat.zero_add, ho])
  have h := any_of_facts (P := P) (Q := Q) (a0 := a0) (w1 := w0.drew) F R hap hb hkeep htrans hstep hend l.length (Array.replicate l.length false) (fun j => match l[j]? with | some o => slotOf a0 o | none => undef) w0.drew
    (by simp) (by simp) hrefl (fun j hj => by rw [getD_replicate_false] at hj; cases hj)
  rw [hx] at h
  simpa using h
end
/-! What an operation reads, in the frame of a region that is under way. -/
theorem eval_put_ne (a : Act) (d : Option Tmp) (v : Value) (t : Tmp) (h : d ≠ some t) : (a.put d v).eval (.tmp t) = a.eval (.tmp t) := by
  unfold Act.put Act.eval
  cases d with
  | none => rfl
  | some d =>
    have hne : d ≠ t := fun e => h (by rw [e])
    simp only [Array.getD_eq_getD_getElem?]
    rw [Array.getElem?_setIfInBounds_ne hne]
theorem size_put (a : Act) (d : Option Tmp) (v : Value) : (a.put d v).tmps.size = a.tmps.size := by
  unfold Act.put
  cases d with
  | none => rfl
  | some d => simp
theorem eval_put_eq (a : Act) (t : Tmp) (v : Value) (h : t < a.tmps.size) : (a.put (some t) v).eval (.tmp t) = v := by
  unfold Act.put Act.eval
  simp only [Array.getD_eq_getD_getElem?]
  rw [Array.getElem?_setIfInBounds_self_of_lt h]
  rfl
theorem eval_out (x : Nat → Value) (t : Tmp) : ∀ (os : List Oper) (n : Nat) (a : Act), (os.all fun o => !(o.dst == some t)) = true → (putAll x os n a).eval (.tmp t) = a.eval (.tmp t) := by
  intro os
  induction os with
  | nil => intro n a _; rfl
  | cons o os ih =>
    intro n a h
    rw [List.all_cons, Bool.and_eq_true] at h
    show (putAll x os (n + 1) (a.put o.dst (x n))).eval (.tmp t) = a.eval (.tmp t)
    rw [ih (n + 1) _ h.2, eval_put_ne]
    have h1 := h.1
    intro e
    rw [e] at h1
    simp at h1
theorem eval_in (x : Nat → Value) (t : Tmp) : ∀ (os : List Oper) (n j : Nat) (o : Oper) (a : Act), apartB os = true → os[j]? = some o → o.dst = some t → t < a.tmps.size → (putAll x os n a).eval (.tmp t) = x (n + j) := by
  intro os
  induction os with
  | nil => intro n j o a _ h; simp at h
  | cons p os ih =>
    intro n j o a hap hj hd ht
    unfold apartB at hap
    rw [Bool.and_eq_true] at hap
    cases j with
    | zero =>
      obtain rfl : p = o := by simpa using hj
      show (putAll x os (n + 1) (a.put p.dst (x n))).eval (.tmp t) = x n
      rw [hd, eval_out x t os (n + 1) _ (by have h1 := hap.1; rw [hd] at h1; exact h1), eval_put_eq a t _ ht]
    | succ j =>
      show (putAll x os (n + 1) (a.put p.dst (x n))).eval (.tmp t) = x (n + (j + 1))
      rw [ih (n + 1) j o _ hap.2 (by simpa using hj) hd (by rw [size_put]; exact ht)]
      rw [show n + 1 + j = n + (j + 1) by omega]

section
variable {P : Program} {Q : Exit → Act → World → Prop} {l : List Oper}
theorem step_value {i : Nat} {o : Oper} {a : Act} {w : World} {K : Act → World → Prop} (ho : l[i]? = some o) (hg : o.guard = none) (v : Value) (w' : World)
    (hr : (execOp a.eval o).run P w = .ok (.value v) w') (h : K (a.put o.dst v) w') : wpOp P l.toArray Q i K a w := by
  unfold wpOp
  rw [show l.toArray[i]? = some o by simpa using ho]
  have hw : Region.wanted o (yielded l.toArray a.tmps) = true := by simp [Region.wanted, hg]
  simp only [hw, if_true]
  left
  unfold Oper.wp
  rw [hr]
  exact h
theorem step_enter {i : Nat} {o : Oper} {a : Act} {w : World} {K : Act → World → Prop} (ho : l[i]? = some o) (hg : o.guard = none) (f : FuncId) (args : Array Value) (w' : World)
    (hr : (execOp a.eval o).run P w = .ok (.enter f args) w') (h : Calls P f args w' fun e w'' => ∃ v, e = .returned v ∧ K (a.put o.dst v) w'') : wpOp P l.toArray Q i K a w := by
  unfold wpOp
  rw [show l.toArray[i]? = some o by simpa using ho]
  have hw : Region.wanted o (yielded l.toArray a.tmps) = true := by simp [Region.wanted, hg]
  simp only [hw, if_true]
  left
  unfold Oper.wp
  rw [hr]
  refine Calls.mono h ?_
  rintro e w'' ⟨v, rfl, hk⟩
  exact hk
theorem step_move {i : Nat} {o : Oper} {a : Act} {w : World} {K : Act → World → Prop} (ho : l[i]? = some o) (hg : o.guard = none) (s : Operand) (hop : o.op = .move s) (v : Value) (he : a.eval s = v) (h : K (a.put o.dst v) w) : wpOp P l.toArray Q i K a w :=
  step_value ho hg v w (by simp only [execOp, hop, he, Sem.run_pure]) h
theorem step_assign {i : Nat} {o : Oper} {a : Act} {w : World} {K : Act → World → Prop} (ho : l[i]? = some o) (hg : o.guard = none) (s : Operand) (hop : o.op = .assign s) (v : Value) (he : a.eval s = v) (h : K (a.put o.dst v) w) : wpOp P l.toArray Q i K a w :=
  step_value ho hg v w (by simp only [execOp, hop, he, Sem.run_pure]) h
theorem step_convert {i : Nat} {o : Oper} {a : Act} {w : World} {K : Act → World → Prop} (ho : l[i]? = some o) (hg : o.guard = none) (t1 t2 : TypeId) (s : Operand) (hop : o.op = .convert t1 t2 s) (v : Value) (he : a.eval s = v) (v' : Value) (w' : World)
    (hr : (convert t1 t2 v).run P w = .ok v' w') (h : K (a.put o.dst v') w') : wpOp P l.toArray Q i K a w :=
  step_value ho hg v' w' (by simp only [execOp, hop, he, Sem.run_bind, Sem.run_pure, hr, Result.andThen_ok]) h
theorem step_cut {i : Nat} {o : Oper} {a : Act} {w : World} {K : Act → World → Prop} (ho : l[i]? = some o) (hg : o.guard = none) (t : TypeId) (s1 s2 : Operand) (hop : o.op = .slice t s1 none (some s2) none) (v1 v2 : Value) (he1 : a.eval s1 = v1) (he2 : a.eval s2 = v2) (v' : Value) (w' : World)
    (hr : (Instr.sliceAt t v1 none (some v2) none).run P w = .ok v' w') (h : K (a.put o.dst v') w') : wpOp P l.toArray Q i K a w :=
  step_value ho hg v' w' (by simp only [execOp, hop, he1, he2, Option.map_some, Option.map_none, Sem.run_bind, Sem.run_pure, hr, Result.andThen_ok]) h
theorem step_build {i : Nat} {o : Oper} {a : Act} {w : World} {K : Act → World → Prop} (ho : l[i]? = some o) (hg : o.guard = none) (t : TypeId) (s : Operand) (hop : o.op = .buildSlice t 1 #[(0, s)]) (v : Value) (he : a.eval s = v) (v' : Value) (w' : World)
    (hr : (Instr.buildSlice t 1 #[(0, v)]).run P w = .ok v' w') (h : K (a.put o.dst v') w') : wpOp P l.toArray Q i K a w :=
  step_value ho hg v' w' (by simp only [execOp, hop, he, List.map_toArray, List.map_cons, List.map_nil, Sem.run_bind, Sem.run_pure, hr, Result.andThen_ok]) h
theorem step_bin {i : Nat} {o : Oper} {a : Act} {w : World} {K : Act → World → Prop} (ho : l[i]? = some o) (hg : o.guard = none) (b : BinOp) (t u : TypeId) (s1 s2 : Operand) (hop : o.op = .binOp b t s1 s2 u) (v1 v2 : Value) (he1 : a.eval s1 = v1) (he2 : a.eval s2 = v2) (v' : Value)
    (hr : (do eqGuard b t s1 s2 v1 v2; binOp b t v1 v2 : Sem Value).run P w = .ok v' w) (h : K (a.put o.dst v') w) : wpOp P l.toArray Q i K a w :=
  step_value ho hg v' w (by rw [show execOp a.eval o = (do pure (.value (← (do eqGuard b t s1 s2 v1 v2; binOp b t v1 v2 : Sem Value))) : Sem Next) by simp only [execOp, hop, he1, he2]]; simp only [Sem.run_bind, Sem.run_pure] at hr ⊢; rw [hr]; rfl) h
theorem step_call {i : Nat} {o : Oper} {a : Act} {w : World} {K : Act → World → Prop} (ho : l[i]? = some o) (hg : o.guard = none) (f : FuncId) (s : Operand) (ts : Array TypeId) (hop : o.op = .call { callee := .value (.func f), args := #[s], argTypes := ts }) (v : Value) (he : a.eval s = v) (hf : (callFunc f #[v]).run P w = .ok (.enter f #[v]) w)
    (h : Calls P f #[v] w fun e w'' => ∃ v, e = .returned v ∧ K (a.put o.dst v) w'') : wpOp P l.toArray Q i K a w :=
  step_enter ho hg f #[v] w (by simp only [execOp, hop, resolve, invoke, Deferred.ofValue, show a.eval (.func f) = .func (.func f) #[] #[] from rfl, List.map_toArray, List.map_cons, List.map_nil, he, Sem.run_bind, Sem.run_pure, Result.andThen_ok]; simpa using hf) h
theorem eval_at {x : Nat → Value} {os : List Oper} {a : Act} (t : Tmp) (j : Nat) (v : Value) (h : (apartB os && (match os[j]? with | some o => o.dst == some t | none => false)) = true) (ht : t < a.tmps.size) (hv : x j = v) : (putAll x os 0 a).eval (.tmp t) = v := by
  rw [Bool.and_eq_true] at h
  cases hj : os[j]? with
  | none => rw [hj] at h; simp at h
  | some o =>
    rw [hj] at h
    rw [eval_in x t os 0 j o a h.1 hj (by simpa using h.2) ht, Nat.zero_add]
    exact hv
theorem eval_of {x : Nat → Value} {os : List Oper} {a : Act} (t : Tmp) (v : Value) (h : (os.all fun o => !(o.dst == some t)) = true) (hv : a.eval (.tmp t) = v) : (putAll x os 0 a).eval (.tmp t) = v := by
  rw [eval_out x t os 0 a h]; exact hv
end
theorem putAll_defers (x : Nat → Value) : ∀ (os : List Oper) (n : Nat) (a : Act), (putAll x os n a).defers = a.defers := by
  intro os
  induction os with
  | nil => intro n a; rfl
  | cons o os ih =>
    intro n a
    show (putAll x os (n + 1) (a.put o.dst (x n))).defers = a.defers
    rw [ih]
    unfold Act.put
    cases o.dst <;> rfl
theorem results_one {P : Program} {fn : Func} (t : Tmp) (hr : fn.results = #[.tmp t]) {a : Act} {v : Value} (h : a.eval (.tmp t) = v) (w : World) : (results fn a.tmps).run P w = .ok v w := by
  have h' : a.tmps.getD t undef = v := h
  unfold results
  rw [hr]
  simp [go_sem] at h' ⊢
  exact h'
end
section
open Go Go.RowKit
set_option linter.unusedVariables false
set_option maxRecDepth 100000

theorem size_putAll (x : Nat → Value) : ∀ (os : List Oper) (n : Nat) (a : Act), (putAll x os n a).tmps.size = a.tmps.size := by
  intro os
  induction os with
  | nil => intro n a; rfl
  | cons o os ih =>
    intro n a
    show (putAll x os (n + 1) (a.put o.dst (x n))).tmps.size = a.tmps.size
    rw [ih, size_put]
/-- What a guard reads of a value. -/
def saysOf : Value → Option Bool
  | .bool b => some b
  | _ => none
/-- Is the operation wanted, by its guard? -/
def WantedIs (l : List Oper) (a : Act) (o : Oper) (r : Bool) : Prop := Region.wanted o (yielded l.toArray a.tmps) = r
theorem wanted0 {l : List Oper} {a : Act} {o : Oper} (h : o.guard = none) : WantedIs l a o true := by simp [WantedIs, Region.wanted, h]
theorem wanted_at {x : Nat → Value} {os : List Oper} {a : Act} {o : Oper} (t j : Nat) (want : Bool) (v : Value) (r : Bool) (hg : o.guard = some (j, want)) (h : (apartB os && (match os[j]? with | some o => o.dst == some t | none => false)) = true) (ht : t < a.tmps.size) (hv : x j = v)
    (hr : (saysOf v == some want) = r) : WantedIs os (putAll x os 0 a) o r := by
  have he := eval_at (x := x) (os := os) (a := a) t j v h ht hv
  rw [Bool.and_eq_true] at h
  have hd : ((os.toArray[j]?).bind (·.dst)) = some t := by
    cases hj : os[j]? with
    | none => rw [hj] at h; simp at h
    | some p =>
      rw [hj] at h
      simp [hj]
      simpa using h.2
  have hs : (putAll x os 0 a).tmps[t]? = some v := by
    have ht' : t < (putAll x os 0 a).tmps.size := by rw [size_putAll]; exact ht
    have : (putAll x os 0 a).tmps.getD t undef = v := he
    rw [Array.getElem?_eq_getElem ht']
    simpa [Array.getD, ht'] using this
  unfold WantedIs Region.wanted
  rw [hg]
  simp only
  have hy : yielded os.toArray (putAll x os 0 a).tmps j = saysOf v := by
    unfold yielded
    rw [hd]
    simp only [Option.bind_some, hs]
    cases v <;> rfl
  rw [hy]
  exact hr

/-- One operation's turn, behind a name that is not opened. -/
structure Step (P : Program) (l : List Oper) (Q : Exit → Act → World → Prop) (i : Nat) (K : Act → World → Prop) (a : Act) (w : World) : Prop where
  out : wpOp P l.toArray Q i K a w
/-- The law of Invar, by 'Step'. -/
theorem wp_region_steps {P : Program} {Q : Exit → Act → World → Prop} {l : List Oper} {id : Nat} {a0 : Act} {w0 : World} (F : Nat → Value → World → Prop) (R : World → World → Prop) (hm : P.follows .mixedOrders = true)
    (hap : apartB l = true) (hb : backB l.toArray = true)
    (hrefl : R w0.drew w0.drew) (hkeep : ∀ i v w w', R w0.drew w → F i v w → R w w' → F i v w') (htrans : ∀ u v w, R u v → R v w → R u w)
    (hstep : ∀ i o, l[i]? = some o → ∀ (x : Nat → Value) (w : World), R w0.drew w → (∀ j, Region.waitsFor .any l.toArray i j = true → F j (x j) w) →
      Step P l Q i (fun a' w' => ∃ v, a' = (putAll x l 0 a0).put o.dst v ∧ F i v w' ∧ R w w') (putAll x l 0 a0) w)
    (hend : ∀ (x : Nat → Value) (w : World), R w0.drew w → (∀ i, i < l.length → F i (x i) w) → Q .normal (putAll x l 0 a0) w) :
    (Code.region id l.toArray true).wp P Q a0 w0 :=
  wp_region_facts F R hm hap hb hrefl hkeep htrans (fun i o ho x w hR hF => (hstep i o ho x w hR hF).out) hend

section
variable {P : Program} {Q : Exit → Act → World → Prop} {l : List Oper}
theorem gstep_value {i : Nat} {o : Oper} {a : Act} {w : World} {K : Act → World → Prop} (ho : l[i]? = some o) (hw : WantedIs l a o true) (v : Value) (w' : World)
    (hr : (execOp a.eval o).run P w = .ok (.value v) w') (h : K (a.put o.dst v) w') : Step P l Q i K a w := by
  refine ⟨?_⟩
  unfold wpOp
  rw [show l.toArray[i]? = some o by simpa using ho]
  simp only [show Region.wanted o (yielded l.toArray a.tmps) = true from hw, if_true]
  left
  unfold Oper.wp
  rw [hr]
  exact h
theorem gstep_enter {i : Nat} {o : Oper} {a : Act} {w : World} {K : Act → World → Prop} (ho : l[i]? = some o) (hw : WantedIs l a o true) (f : FuncId) (args : Array Value) (w' : World)
    (hr : (execOp a.eval o).run P w = .ok (.enter f args) w') (h : Calls P f args w' fun e w'' => ∃ v, e = .returned v ∧ K (a.put o.dst v) w'') : Step P l Q i K a w := by
  refine ⟨?_⟩
  unfold wpOp
  rw [show l.toArray[i]? = some o by simpa using ho]
  simp only [show Region.wanted o (yielded l.toArray a.tmps) = true from hw, if_true]
  left
  unfold Oper.wp
  rw [hr]
  refine Calls.mono h ?_
  rintro e w'' ⟨v, rfl, hk⟩
  exact hk
theorem gstep_skip {i : Nat} {o : Oper} {a : Act} {w : World} {K : Act → World → Prop} (ho : l[i]? = some o) (hw : WantedIs l a o false) (h : K (a.put o.dst undef) w) : Step P l Q i K a w := by
  refine ⟨?_⟩
  unfold wpOp
  rw [show l.toArray[i]? = some o by simpa using ho]
  simp only [show Region.wanted o (yielded l.toArray a.tmps) = false from hw, Bool.false_eq_true, if_false]
  exact h
theorem gstep_move {i : Nat} {o : Oper} {a : Act} {w : World} {K : Act → World → Prop} (ho : l[i]? = some o) (hw : WantedIs l a o true) (s : Operand) (hop : o.op = .move s) (v : Value) (he : a.eval s = v) (h : K (a.put o.dst v) w) : Step P l Q i K a w :=
  gstep_value ho hw v w (by simp only [execOp, hop, he, Sem.run_pure]) h
theorem gstep_assign {i : Nat} {o : Oper} {a : Act} {w : World} {K : Act → World → Prop} (ho : l[i]? = some o) (hw : WantedIs l a o true) (s : Operand) (hop : o.op = .assign s) (v : Value) (he : a.eval s = v) (h : K (a.put o.dst v) w) : Step P l Q i K a w :=
  gstep_value ho hw v w (by simp only [execOp, hop, he, Sem.run_pure]) h
theorem gstep_nil {i : Nat} {o : Oper} {a : Act} {w : World} {K : Act → World → Prop} (ho : l[i]? = some o) (hw : WantedIs l a o true) (s : Operand) (hop : o.op = .nilCheck s) (p : Addr) (he : a.eval s = .pointer (some p)) (h : K (a.put o.dst (.pointer (some p))) w) : Step P l Q i K a w :=
  gstep_value ho hw _ w (by simp only [execOp, hop, he, Sem.run_pure]) h
theorem gstep_pick {i : Nat} {o : Oper} {a : Act} {w : World} {K : Act → World → Prop} (ho : l[i]? = some o) (hw : WantedIs l a o true) (s1 s2 s3 : Operand) (hop : o.op = .pick s1 s2 s3) (b : Bool) (he : a.eval s1 = .bool b) (v : Value) (hv : (if b = true then a.eval s2 else a.eval s3) = v) (h : K (a.put o.dst v) w) : Step P l Q i K a w :=
  gstep_value ho hw v w (by simp only [execOp, hop, he, asBool, Sem.run_bind, Sem.run_pure, Result.andThen_ok, hv]) h
theorem gstep_load {i : Nat} {o : Oper} {a : Act} {w : World} {K : Act → World → Prop} (ho : l[i]? = some o) (hw : WantedIs l a o true) (t : TypeId) (s : Operand) (hop : o.op = .load t s) (v : Value) (he : a.eval s = v) (v' : Value)
    (hr : (Instr.loadAt t v).run P w = .ok v' w) (h : K (a.put o.dst v') w) : Step P l Q i K a w :=
  gstep_value ho hw v' w (by simp only [execOp, hop, he, Sem.run_bind, Sem.run_pure, hr, Result.andThen_ok]) h
theorem gstep_field {i : Nat} {o : Oper} {a : Act} {w : World} {K : Act → World → Prop} (ho : l[i]? = some o) (hw : WantedIs l a o true) (t : TypeId) (s : Operand) (f : Nat) (hop : o.op = .fieldAddr t s f) (v : Value) (he : a.eval s = v) (v' : Value)
    (hr : (Instr.fieldAt t v f).run P w = .ok v' w) (h : K (a.put o.dst v') w) : Step P l Q i K a w :=
  gstep_value ho hw v' w (by simp only [execOp, hop, he, Sem.run_bind, Sem.run_pure, hr, Result.andThen_ok]) h
theorem gstep_index {i : Nat} {o : Oper} {a : Act} {w : World} {K : Act → World → Prop} (ho : l[i]? = some o) (hw : WantedIs l a o true) (t : TypeId) (s1 s2 : Operand) (hop : o.op = .indexAddr t s1 s2) (v1 v2 : Value) (he1 : a.eval s1 = v1) (he2 : a.eval s2 = v2) (v' : Value)
    (hr : (Instr.indexAt t v1 v2).run P w = .ok v' w) (h : K (a.put o.dst v') w) : Step P l Q i K a w :=
  gstep_value ho hw v' w (by simp only [execOp, hop, he1, he2, Sem.run_bind, Sem.run_pure, hr, Result.andThen_ok]) h
theorem gstep_bin {i : Nat} {o : Oper} {a : Act} {w : World} {K : Act → World → Prop} (ho : l[i]? = some o) (hw : WantedIs l a o true) (b : BinOp) (t u : TypeId) (s1 s2 : Operand) (hop : o.op = .binOp b t s1 s2 u) (v1 v2 : Value) (he1 : a.eval s1 = v1) (he2 : a.eval s2 = v2) (v' : Value)
    (hr : (do eqGuard b t s1 s2 v1 v2; binOp b t v1 v2 : Sem Value).run P w = .ok v' w) (h : K (a.put o.dst v') w) : Step P l Q i K a w :=
  gstep_value ho hw v' w (by rw [show execOp a.eval o = (do pure (.value (← (do eqGuard b t s1 s2 v1 v2; binOp b t v1 v2 : Sem Value))) : Sem Next) by simp only [execOp, hop, he1, he2]]; simp only [Sem.run_bind, Sem.run_pure] at hr ⊢; rw [hr]; rfl) h
theorem gstep_not {i : Nat} {o : Oper} {a : Act} {w : World} {K : Act → World → Prop} (ho : l[i]? = some o) (hw : WantedIs l a o true) (t : TypeId) (s : Operand) (hop : o.op = .unOp .not t s) (b : Bool) (he : a.eval s = .bool b) (h : K (a.put o.dst (.bool (!b))) w) : Step P l Q i K a w :=
  gstep_value ho hw _ w (by simp only [execOp, hop, he, Op.unary, Sem.run_bind, Sem.run_pure, Result.andThen_ok]) h
theorem gstep_call {i : Nat} {o : Oper} {a : Act} {w : World} {K : Act → World → Prop} (ho : l[i]? = some o) (hw : WantedIs l a o true) (f : FuncId) (s : Operand) (ts : Array TypeId) (hop : o.op = .call { callee := .value (.func f), args := #[s], argTypes := ts }) (v : Value) (he : a.eval s = v) (hf : (callFunc f #[v]).run P w = .ok (.enter f #[v]) w)
    (h : Calls P f #[v] w fun e w'' => ∃ v, e = .returned v ∧ K (a.put o.dst v) w'') : Step P l Q i K a w :=
  gstep_enter ho hw f #[v] w (by simp only [execOp, hop, resolve, invoke, Deferred.ofValue, show a.eval (.func f) = .func (.func f) #[] #[] from rfl, List.map_toArray, List.map_cons, List.map_nil, he, Sem.run_bind, Sem.run_pure, Result.andThen_ok]; simpa using hf) h
theorem gstep_call2 {i : Nat} {o : Oper} {a : Act} {w : World} {K : Act → World → Prop} (ho : l[i]? = some o) (hw : WantedIs l a o true) (f : FuncId) (s1 s2 : Operand) (ts : Array TypeId) (hop : o.op = .call { callee := .value (.func f), args := #[s1, s2], argTypes := ts }) (v1 v2 : Value) (he1 : a.eval s1 = v1) (he2 : a.eval s2 = v2) (hf : (callFunc f #[v1, v2]).run P w = .ok (.enter f #[v1, v2]) w)
    (h : Calls P f #[v1, v2] w fun e w'' => ∃ v, e = .returned v ∧ K (a.put o.dst v) w'') : Step P l Q i K a w :=
  gstep_enter ho hw f #[v1, v2] w (by simp only [execOp, hop, resolve, invoke, Deferred.ofValue, show a.eval (.func f) = .func (.func f) #[] #[] from rfl, List.map_toArray, List.map_cons, List.map_nil, he1, he2, Sem.run_bind, Sem.run_pure, Result.andThen_ok]; simpa using hf) h
theorem gstep_call3 {i : Nat} {o : Oper} {a : Act} {w : World} {K : Act → World → Prop} (ho : l[i]? = some o) (hw : WantedIs l a o true) (f : FuncId) (s1 s2 s3 : Operand) (ts : Array TypeId) (hop : o.op = .call { callee := .value (.func f), args := #[s1, s2, s3], argTypes := ts }) (v1 v2 v3 : Value) (he1 : a.eval s1 = v1) (he2 : a.eval s2 = v2) (he3 : a.eval s3 = v3) (hf : (callFunc f #[v1, v2, v3]).run P w = .ok (.enter f #[v1, v2, v3]) w)
    (h : Calls P f #[v1, v2, v3] w fun e w'' => ∃ v, e = .returned v ∧ K (a.put o.dst v) w'') : Step P l Q i K a w :=
  gstep_enter ho hw f #[v1, v2, v3] w (by simp only [execOp, hop, resolve, invoke, Deferred.ofValue, show a.eval (.func f) = .func (.func f) #[] #[] from rfl, List.map_toArray, List.map_cons, List.map_nil, he1, he2, he3, Sem.run_bind, Sem.run_pure, Result.andThen_ok]; simpa using hf) h
theorem gstep_store {i : Nat} {o : Oper} {a : Act} {w : World} {K : Act → World → Prop} (ho : l[i]? = some o) (hw : WantedIs l a o true) (t : TypeId) (s1 s2 : Operand) (hop : o.op = .store t s1 s2) (v1 v2 : Value) (he1 : a.eval s1 = v1) (he2 : a.eval s2 = v2) (w' : World)
    (hr : (Instr.storeAt t v1 v2).run P w = .ok () w') (h : K (a.put o.dst undef) w') : Step P l Q i K a w := by
  refine ⟨?_⟩
  unfold wpOp
  rw [show l.toArray[i]? = some o by simpa using ho]
  simp only [show Region.wanted o (yielded l.toArray a.tmps) = true from hw, if_true]
  left
  unfold Oper.wp
  rw [show (execOp a.eval o).run P w = .ok .skip w' by simp only [execOp, hop, he1, he2, Sem.run_bind, Sem.run_pure, hr, Result.andThen_ok]]
  exact h
theorem gstep_build {i : Nat} {o : Oper} {a : Act} {w : World} {K : Act → World → Prop} (ho : l[i]? = some o) (hw : WantedIs l a o true) (t : TypeId) (hop : o.op = .build t #[]) (v' : Value)
    (hr : (Instr.build t #[]).run P w = .ok v' w) (h : K (a.put o.dst v') w) : Step P l Q i K a w :=
  gstep_value ho hw v' w (by simp only [execOp, hop, List.map_toArray, List.map_nil, Sem.run_bind, Sem.run_pure, hr, Result.andThen_ok]) h
end
end
section
open Go Go.RowKit
set_option linter.unusedVariables false
set_option maxRecDepth 100000

section
variable {P : Program} {Q : Exit → Act → World → Prop} {l : List Oper}

theorem last_waits {N : Nat} {listed : Array Bool} (hs : Region.sinkB .any l.toArray N = true) (hN : l.length = N + 1) (inv : HeadInv .any l.toArray N listed) (hr : N ∈ Region.ready .any l.toArray listed) : ∀ i, i < N → listed.getD i false = true := by
  intro i hi
  have hsz : l.toArray.size = N + 1 := by simpa using hN
  cases h : listed.getD i false with
  | true => rfl
  | false =>
    have hc : Region.chainB .any l.toArray N = true := by
      unfold Region.chainB
      refine List.all_eq_true.2 fun t ht => ?_
      have := List.mem_range.1 ht
      rw [hsz] at this
      simp
      exact .inl (by omega)
    have hil : i < listed.size := by rw [inv.size, hsz]; omega
    exact absurd hr (tail_waits hs hc (by omega) inv _ i rfl hi (getD_in hil h) N (Nat.le_refl _))

theorem any_of_facts_last {a0 : Act} {w1 : World} {N : Nat} (F : Nat → Value → World → Prop) (R : World → World → Prop)
    (hN : l.length = N + 1) (hs : Region.sinkB .any l.toArray N = true) (hap : apartB l = true) (hb : backB l.toArray = true)
    (hkeep : ∀ i v w w', R w1 w → F i v w → R w w' → F i v w') (htrans : ∀ u v w, R u v → R v w → R u w)
    (hstep : ∀ i o, i < N → l[i]? = some o → ∀ (x : Nat → Value) (w : World), R w1 w → (∀ j, Region.waitsFor .any l.toArray i j = true → F j (x j) w) →
      wpOp P l.toArray Q i (fun a' w' => ∃ v, a' = (putAll x l 0 a0).put o.dst v ∧ F i v w' ∧ R w w') (putAll x l 0 a0) w)
    (hlast : ∀ o, l[N]? = some o → ∀ (x : Nat → Value) (w : World), R w1 w → (∀ i, i < N → F i (x i) w) → wpOp P l.toArray Q N (fun a' w' => Q .normal a' w') (putAll x l 0 a0) w) :
    ∀ (fuel : Nat) (listed : Array Bool) (x : Nat → Value) (w : World), HeadInv .any l.toArray N listed → listed.toList.count false = fuel → R w1 w → (∀ j, j < N → listed.getD j false = true → F j (x j) w) →
      wpAny P .any l.toArray Q fuel listed (putAll x l 0 a0) w := by
  intro fuel
  have hsz : l.toArray.size = N + 1 := by simpa using hN
  have hNl : ∀ listed : Array Bool, HeadInv .any l.toArray N listed → listed.getD N false = false ∧ N < listed.size := fun listed inv => ⟨getD_both (inv.tail N (Nat.le_refl _) (by omega)), by rw [inv.size, hsz]; omega⟩
  have hno : ∀ listed : Array Bool, HeadInv .any l.toArray N listed → Region.ready .any l.toArray listed ≠ [] := fun listed inv h => by
    have h1 := ready_nil inv.size hb h N (by omega)
    rw [(hNl listed inv).1] at h1
    cases h1
  have hcount : ∀ listed : Array Bool, HeadInv .any l.toArray N listed → 0 < listed.toList.count false := fun listed inv => by
    obtain ⟨h1, h2⟩ := hNl listed inv
    refine List.count_pos_iff.2 ?_
    have e : listed[N] = false := by simpa [h2] using h1
    rw [← e]
    exact Array.getElem_mem_toList h2
  induction fuel with
  | zero =>
    intro listed x w inv hc hR hF
    have := hcount listed inv
    omega
  | succ fuel ih =>
    intro listed x w inv hc hR hF
    refine ⟨fun h => absurd h (hno listed inv), fun i hi => ?_⟩
    obtain ⟨hun, o, ho, hall⟩ := mem_ready.1 hi
    have hil : i < listed.size := by rw [inv.size]; exact (Array.getElem?_eq_some_iff.1 ho).1
    have ho' : l[i]? = some o := by simpa using ho
    have hiN : i < N ∨ i = N := by have := inv.size; omega
    rcases hiN with hiN | rfl
    · refine wpOp_mono ?_ (hstep i o hiN ho' x w hR (fun j hj => ?_))
      · rintro a' w' ⟨v, rfl, hFv, hRw⟩
        have e := putAll_set x v l 0 i o a0 hap ho'
        rw [e]
        refine ih _ _ _ (inv.set hi hiN) ?_ (htrans _ _ _ hR hRw) (fun j hjN hj => ?_)
        · have e1 : listed[i] = false := by simpa [hil] using hun
          rw [Array.toList_setIfInBounds, List.count_set (by simpa using hil)]
          have hc2 : Array.count false listed = fuel + 1 := by simpa using hc
          simp [e1]
          omega
        · by_cases hji : j = 0 + i
          · simp only [hji, if_true]
            rw [show 0 + i = i by omega]
            exact hFv
          · simp only [hji, if_false]
            refine hkeep j _ w w' hR (hF j hjN ?_) hRw
            rw [getD_set_ne false (by omega)] at hj
            exact hj
      · obtain ⟨oj, hoj, e, he, hbi, hon⟩ := Region.waitsFor_spec hj
        obtain rfl : oj = o := Option.some.inj (hoj.symm.trans ho)
        have hle : e.on < i := by
          have h1 := List.all_eq_true.1 hb i (List.mem_range.2 (by omega))
          rw [ho] at h1
          have h2 := Array.all_eq_true'.1 h1 e he
          rw [hbi] at h2
          simpa using h2
        have := hall e he hbi
        rw [hon] at this hle
        exact hF j (by omega) this
    · have hd := last_waits hs hN inv hi
      refine wpOp_mono ?_ (hlast o ho' x w hR (fun j hj => hF j hj (hd j hj)))
      intro a' w' hq
      have hall' : ∀ j, j < i + 1 → (listed.setIfInBounds i true).getD j false = true := fun j hj => by
        by_cases hji : i = j
        · subst hji; simp [hil]
        · rw [getD_set_ne false hji]; exact hd j (by omega)
      have hr0 : Region.ready .any l.toArray (listed.setIfInBounds i true) = [] := by
        apply List.eq_nil_iff_forall_not_mem.2
        intro j hj
        obtain ⟨hun', o', hoj', _⟩ := mem_ready.1 hj
        have hjl : j < l.toArray.size := (Array.getElem?_eq_some_iff.1 hoj').1
        have h1 := hall' j (by omega)
        rw [getD_both hun'] at h1
        cases h1
      cases fuel with
      | zero => exact ⟨hr0, hq⟩
      | succ f => exact ⟨fun _ => hq, fun j hj => by rw [hr0] at hj; cases hj⟩

/-- THE LAW with a last operation that waits for all the others. -/
theorem wp_region_steps_last {id : Nat} {a0 : Act} {w0 : World} (N : Nat) (F : Nat → Value → World → Prop) (R : World → World → Prop) (hm : P.follows .mixedOrders = true)
    (hN : l.length = N + 1) (hs : Region.sinkB .any l.toArray N = true) (hap : apartB l = true) (hb : backB l.toArray = true)
    (hrefl : R w0.drew w0.drew) (hkeep : ∀ i v w w', R w0.drew w → F i v w → R w w' → F i v w') (htrans : ∀ u v w, R u v → R v w → R u w)
    (hstep : ∀ i o, i < N → l[i]? = some o → ∀ (x : Nat → Value) (w : World), R w0.drew w → (∀ j, Region.waitsFor .any l.toArray i j = true → F j (x j) w) →
      Step P l Q i (fun a' w' => ∃ v, a' = (putAll x l 0 a0).put o.dst v ∧ F i v w' ∧ R w w') (putAll x l 0 a0) w)
    (hlast : ∀ o, l[N]? = some o → ∀ (x : Nat → Value) (w : World), R w0.drew w → (∀ i, i < N → F i (x i) w) → Step P l Q N (fun a' w' => Q .normal a' w') (putAll x l 0 a0) w) :
    (Code.region id l.toArray true).wp P Q a0 w0 := by
  refine wp_region_any hm ?_
  have hx : putAll (fun j => match l[j]? with | some o => slotOf a0 o | none => undef) l 0 a0 = a0 :=
    putAll_self a0 l 0 _ (fun j o ho => by simp only [Nat.zero_add, ho])
  have hT : ∀ t, N ≤ t → t < l.toArray.size → (Array.replicate l.length false).getD t true = false := by
    intro t h1 h2
    have h3 : t < l.length := by simpa using h2
    simp [h3]
  have h := any_of_facts_last (P := P) (Q := Q) (a0 := a0) (w1 := w0.drew) (N := N) F R hN hs hap hb hkeep htrans (fun i o hi ho x w hR hF => (hstep i o hi ho x w hR hF).out) (fun o ho x w hR hF => (hlast o ho x w hR hF).out)
    l.length (Array.replicate l.length false) (fun j => match l[j]? with | some o => slotOf a0 o | none => undef) w0.drew
    ⟨by simp, (fun j oj hj hl => by rw [getD_replicate_false] at hl; cases hl), hT⟩ (by simp) hrefl (fun j _ hj => by rw [getD_replicate_false] at hj; cases hj)
  rw [hx] at h
  simpa using h
end
end
section
open Go Go.RowKit
set_option linter.unusedVariables false
set_option maxRecDepth 100000

section
variable {P : Program} {Q : Exit → Act → World → Prop} {l : List Oper}
def setB (b : Nat → Bool) (i : Nat) : Nat → Bool := fun j => if j = i then true else b j
def setX (x : Nat → Value) (i : Nat) (v : Value) : Nat → Value := fun j => if j = i then v else x j
theorem setB_same (b : Nat → Bool) (i : Nat) : setB b i i = true := by simp [setB]
theorem setB_ne {b : Nat → Bool} {i j : Nat} (h : j ≠ i) : setB b i j = b j := by simp [setB, h]
theorem setX_same (x : Nat → Value) (i : Nat) (v : Value) : setX x i v i = v := by simp [setX]
theorem setX_ne {x : Nat → Value} {i j : Nat} {v : Value} (h : j ≠ i) : setX x i v j = x j := by simp [setX, h]
theorem any_of_inv {a0 : Act} (I : (Nat → Bool) → (Nat → Value) → World → Prop) (hap : apartB l = true) (hb : backB l.toArray = true)
    (hstep : ∀ i o, l[i]? = some o → ∀ (b : Nat → Bool) (x : Nat → Value) (w : World), I b x w → b i = false → (∀ j, Region.waitsFor .any l.toArray i j = true → b j = true) →
      wpOp P l.toArray Q i (fun a' w' => ∃ v, a' = (putAll x l 0 a0).put o.dst v ∧ I (setB b i) (setX x i v) w') (putAll x l 0 a0) w)
    (hend : ∀ (b : Nat → Bool) (x : Nat → Value) (w : World), I b x w → (∀ i, i < l.length → b i = true) → Q .normal (putAll x l 0 a0) w) :
    ∀ (fuel : Nat) (listed : Array Bool) (x : Nat → Value) (w : World), listed.size = l.length → listed.toList.count false = fuel → I (fun j => listed.getD j false) x w →
      wpAny P .any l.toArray Q fuel listed (putAll x l 0 a0) w := by
  intro fuel
  have hfin : ∀ (listed : Array Bool) (x : Nat → Value) (w : World), listed.size = l.length → I (fun j => listed.getD j false) x w → Region.ready .any l.toArray listed = [] → Q .normal (putAll x l 0 a0) w :=
    fun listed x w hs hI h => hend _ x w hI (fun i hi => ready_nil (by simpa using hs) hb h i (by simpa using hi))
  induction fuel with
  | zero =>
    intro listed x w hs hc hI
    have hr : Region.ready .any l.toArray listed = [] := by
      apply List.eq_nil_iff_forall_not_mem.2
      intro i hi
      obtain ⟨hun, o, ho, _⟩ := mem_ready.1 hi
      have hil : i < listed.size := by rw [hs]; have := (Array.getElem?_eq_some_iff.1 ho).1; simpa using this
      have hm : false ∈ listed.toList := by
        have e : listed[i] = false := by simpa [hil] using hun
        rw [← e]
        exact Array.getElem_mem_toList hil
      exact absurd hm (List.count_eq_zero.1 hc)
    exact ⟨hr, hfin listed x w hs hI hr⟩
  | succ fuel ih =>
    intro listed x w hs hc hI
    refine ⟨hfin listed x w hs hI, fun i hi => ?_⟩
    obtain ⟨hun, o, ho, hall⟩ := mem_ready.1 hi
    have hil : i < listed.size := by rw [hs]; have := (Array.getElem?_eq_some_iff.1 ho).1; simpa using this
    have ho' : l[i]? = some o := by simpa using ho
    have e1 : listed[i] = false := by simpa [hil] using hun
    refine wpOp_mono ?_ (hstep i o ho' _ x w hI (by simp [hil, e1]) (fun j hj => ?_))
    · rintro a' w' ⟨v, rfl, hI'⟩
      have e := putAll_set x v l 0 i o a0 hap ho'
      rw [e]
      have hx : (fun j => if j = 0 + i then v else x j) = setX x i v := by funext j; unfold setX; rw [Nat.zero_add]
      rw [hx]
      refine ih _ _ _ (by simpa using hs) ?_ ?_
      · rw [Array.toList_setIfInBounds, List.count_set (by simpa using hil)]
        have hc2 : Array.count false listed = fuel + 1 := by simpa using hc
        simp [e1]
        omega
      · have hbb : (fun j => (listed.setIfInBounds i true).getD j false) = setB (fun j => listed.getD j false) i := by
          funext j
          unfold setB
          by_cases hji : j = i
          · subst hji; simp [hil]
          · rw [getD_set_ne false (by omega), if_neg hji]
        rw [hbb]; exact hI'
    · obtain ⟨oj, hoj, e, he, hbi, hon⟩ := Region.waitsFor_spec hj
      obtain rfl : oj = o := Option.some.inj (hoj.symm.trans ho)
      have := hall e he hbi
      rw [hon] at this
      exact this
/-- THE LAW: a region that draws its order, by an invariant over what has run. -/
theorem wp_region_inv {id : Nat} {a0 : Act} {w0 : World} (I : (Nat → Bool) → (Nat → Value) → World → Prop) (hm : P.follows .mixedOrders = true) (hap : apartB l = true) (hb : backB l.toArray = true)
    (h0 : ∀ x, I (fun _ => false) x w0.drew)
    (hstep : ∀ i o, l[i]? = some o → ∀ (b : Nat → Bool) (x : Nat → Value) (w : World), I b x w → b i = false → (∀ j, Region.waitsFor .any l.toArray i j = true → b j = true) →
      Step P l Q i (fun a' w' => ∃ v, a' = (putAll x l 0 a0).put o.dst v ∧ I (setB b i) (setX x i v) w') (putAll x l 0 a0) w)
    (hend : ∀ (b : Nat → Bool) (x : Nat → Value) (w : World), I b x w → (∀ i, i < l.length → b i = true) → Q .normal (putAll x l 0 a0) w) :
    (Code.region id l.toArray true).wp P Q a0 w0 := by
  refine wp_region_any hm ?_
  have hx : putAll (fun j => match l[j]? with | some o => slotOf a0 o | none => undef) l 0 a0 = a0 :=
    putAll_self a0 l 0 _ (fun j o ho => by simp only [Nat.zero_add, ho])
  have h := any_of_inv (P := P) (Q := Q) (a0 := a0) I hap hb (fun i o ho b x w hI hbi hW => (hstep i o ho b x w hI hbi hW).out) hend l.length (Array.replicate l.length false) (fun j => match l[j]? with | some o => slotOf a0 o | none => undef) w0.drew
    (by simp) (by simp) (by
      have e : (fun j => (Array.replicate l.length false).getD j false) = fun _ => false := by funext j; exact getD_replicate_false _ _
      rw [e]; exact h0 _)
  rw [hx] at h
  simpa using h
theorem any_of_inv_last {a0 : Act} {N : Nat} (I : (Nat → Bool) → (Nat → Value) → World → Prop)
    (hN : l.length = N + 1) (hs : Region.sinkB .any l.toArray N = true) (hap : apartB l = true) (hb : backB l.toArray = true)
    (hstep : ∀ i o, i < N → l[i]? = some o → ∀ (b : Nat → Bool) (x : Nat → Value) (w : World), I b x w → b i = false → (∀ j, Region.waitsFor .any l.toArray i j = true → b j = true) →
      wpOp P l.toArray Q i (fun a' w' => ∃ v, a' = (putAll x l 0 a0).put o.dst v ∧ I (setB b i) (setX x i v) w') (putAll x l 0 a0) w)
    (hlast : ∀ o, l[N]? = some o → ∀ (b : Nat → Bool) (x : Nat → Value) (w : World), I b x w → (∀ i, i < N → b i = true) → wpOp P l.toArray Q N (fun a' w' => Q .normal a' w') (putAll x l 0 a0) w) :
    ∀ (fuel : Nat) (listed : Array Bool) (x : Nat → Value) (w : World), HeadInv .any l.toArray N listed → listed.toList.count false = fuel → I (fun j => listed.getD j false) x w →
      wpAny P .any l.toArray Q fuel listed (putAll x l 0 a0) w := by
  intro fuel
  have hsz : l.toArray.size = N + 1 := by simpa using hN
  have hNl : ∀ listed : Array Bool, HeadInv .any l.toArray N listed → listed.getD N false = false ∧ N < listed.size := fun listed inv => ⟨getD_both (inv.tail N (Nat.le_refl _) (by omega)), by rw [inv.size, hsz]; omega⟩
  have hno : ∀ listed : Array Bool, HeadInv .any l.toArray N listed → Region.ready .any l.toArray listed ≠ [] := fun listed inv h => by
    have h1 := ready_nil inv.size hb h N (by omega)
    rw [(hNl listed inv).1] at h1
    cases h1
  have hcount : ∀ listed : Array Bool, HeadInv .any l.toArray N listed → 0 < listed.toList.count false := fun listed inv => by
    obtain ⟨h1, h2⟩ := hNl listed inv
    refine List.count_pos_iff.2 ?_
    have e : listed[N] = false := by simpa [h2] using h1
    rw [← e]
    exact Array.getElem_mem_toList h2
  induction fuel with
  | zero =>
    intro listed x w inv hc hI
    have := hcount listed inv
    omega
  | succ fuel ih =>
    intro listed x w inv hc hI
    refine ⟨fun h => absurd h (hno listed inv), fun i hi => ?_⟩
    obtain ⟨hun, o, ho, hall⟩ := mem_ready.1 hi
    have hil : i < listed.size := by rw [inv.size]; exact (Array.getElem?_eq_some_iff.1 ho).1
    have ho' : l[i]? = some o := by simpa using ho
    have e1 : listed[i] = false := by simpa [hil] using hun
    have hiN : i < N ∨ i = N := by have := inv.size; omega
    rcases hiN with hiN | rfl
    · refine wpOp_mono ?_ (hstep i o hiN ho' _ x w hI (by simp [hil, e1]) (fun j hj => ?_))
      · rintro a' w' ⟨v, rfl, hI'⟩
        have e := putAll_set x v l 0 i o a0 hap ho'
        rw [e]
        have hx : (fun j => if j = 0 + i then v else x j) = setX x i v := by funext j; unfold setX; rw [Nat.zero_add]
        rw [hx]
        refine ih _ _ _ (inv.set hi hiN) ?_ ?_
        · rw [Array.toList_setIfInBounds, List.count_set (by simpa using hil)]
          have hc2 : Array.count false listed = fuel + 1 := by simpa using hc
          simp [e1]
          omega
        · have hbb : (fun j => (listed.setIfInBounds i true).getD j false) = setB (fun j => listed.getD j false) i := by
            funext j
            unfold setB
            by_cases hji : j = i
            · subst hji; simp [hil]
            · rw [getD_set_ne false (by omega), if_neg hji]
          rw [hbb]; exact hI'
      · obtain ⟨oj, hoj, e, he, hbi, hon⟩ := Region.waitsFor_spec hj
        obtain rfl : oj = o := Option.some.inj (hoj.symm.trans ho)
        have := hall e he hbi
        rw [hon] at this
        exact this
    · have hd := last_waits hs hN inv hi
      refine wpOp_mono ?_ (hlast o ho' _ x w hI hd)
      intro a' w' hq
      have hall' : ∀ j, j < i + 1 → (listed.setIfInBounds i true).getD j false = true := fun j hj => by
        by_cases hji : i = j
        · subst hji; simp [hil]
        · rw [getD_set_ne false hji]; exact hd j (by omega)
      have hr0 : Region.ready .any l.toArray (listed.setIfInBounds i true) = [] := by
        apply List.eq_nil_iff_forall_not_mem.2
        intro j hj
        obtain ⟨hun', o', hoj', _⟩ := mem_ready.1 hj
        have hjl : j < l.toArray.size := (Array.getElem?_eq_some_iff.1 hoj').1
        have h1 := hall' j (by omega)
        rw [getD_both hun'] at h1
        cases h1
      cases fuel with
      | zero => exact ⟨hr0, hq⟩
      | succ f => exact ⟨fun _ => hq, fun j hj => by rw [hr0] at hj; cases hj⟩
/-- THE LAW: a region that draws its order, by an invariant over what has run; a last operation that waits for all the others. -/
theorem wp_region_inv_last {id : Nat} {a0 : Act} {w0 : World} (N : Nat) (I : (Nat → Bool) → (Nat → Value) → World → Prop) (hm : P.follows .mixedOrders = true)
    (hN : l.length = N + 1) (hs : Region.sinkB .any l.toArray N = true) (hap : apartB l = true) (hb : backB l.toArray = true)
    (h0 : ∀ x, I (fun _ => false) x w0.drew)
    (hstep : ∀ i o, i < N → l[i]? = some o → ∀ (b : Nat → Bool) (x : Nat → Value) (w : World), I b x w → b i = false → (∀ j, Region.waitsFor .any l.toArray i j = true → b j = true) →
      Step P l Q i (fun a' w' => ∃ v, a' = (putAll x l 0 a0).put o.dst v ∧ I (setB b i) (setX x i v) w') (putAll x l 0 a0) w)
    (hlast : ∀ o, l[N]? = some o → ∀ (b : Nat → Bool) (x : Nat → Value) (w : World), I b x w → (∀ i, i < N → b i = true) → Step P l Q N (fun a' w' => Q .normal a' w') (putAll x l 0 a0) w) :
    (Code.region id l.toArray true).wp P Q a0 w0 := by
  refine wp_region_any hm ?_
  have hx : putAll (fun j => match l[j]? with | some o => slotOf a0 o | none => undef) l 0 a0 = a0 :=
    putAll_self a0 l 0 _ (fun j o ho => by simp only [Nat.zero_add, ho])
  have hT : ∀ t, N ≤ t → t < l.toArray.size → (Array.replicate l.length false).getD t true = false := by
    intro t h1 h2
    have h3 : t < l.length := by simpa using h2
    simp [h3]
  have h := any_of_inv_last (P := P) (Q := Q) (a0 := a0) (N := N) I hN hs hap hb (fun i o hi ho b x w hI hbi hW => (hstep i o hi ho b x w hI hbi hW).out) (fun o ho b x w hI hA => (hlast o ho b x w hI hA).out)
    l.length (Array.replicate l.length false) (fun j => match l[j]? with | some o => slotOf a0 o | none => undef) w0.drew
    ⟨by simp, (fun j oj hj hl => by rw [getD_replicate_false] at hl; cases hl), hT⟩ (by simp) (by
      have e : (fun j => (Array.replicate l.length false).getD j false) = fun _ => false := by funext j; exact getD_replicate_false _ _
      rw [e]; exact h0 _)
  rw [hx] at h
  simpa using h
/-- Facts of what has run, and a word about the world. -/
def IFJ (F : Nat → Value → Prop) (J : (Nat → Bool) → (Nat → Value) → World → Prop) (b : Nat → Bool) (x : Nat → Value) (w : World) : Prop := (∀ j, b j = true → F j (x j)) ∧ J b x w
theorem IFJ.step {F : Nat → Value → Prop} {J : (Nat → Bool) → (Nat → Value) → World → Prop} {b : Nat → Bool} {x : Nat → Value} {w w' : World} (h : IFJ F J b x w) {i : Nat} {v : Value} (hv : F i v) (hj : J (setB b i) (setX x i v) w') : IFJ F J (setB b i) (setX x i v) w' := by
  refine ⟨fun j hj => ?_, hj⟩
  by_cases e : j = i
  · rw [e, setX_same]; exact hv
  · rw [setX_ne e]; rw [setB_ne e] at hj; exact h.1 j hj
theorem gstep_append {i : Nat} {o : Oper} {a : Act} {w : World} {K : Act → World → Prop} (ho : l[i]? = some o) (hw : WantedIs l a o true) (s y : Operand) (t : TypeId) (hop : o.op = .call { callee := .builtin .append, args := #[s, y], argTypes := #[t, t] })
    (base : Nat) (e : TypeId) (i0 : TypeInfo) (z : Value) (size bytes : Nat) (ht : P.underlying t = some (.slice e)) (hi : P.info? e = some i0) (hz : i0.zero = some z)
    (hsize : i0.size = size) (hby : i0.bytes = bytes) (hzs : z.cells.size = size) (hsz : 0 < size)
    (v : Value) (n : Nat) (xs : List Value) (he : a.eval s = v) (hown : w.ownsRow base e size v n xs)
    (ad : Addr) (m c : Nat) (news : List Value) (hx : a.eval y = .slice (some ad) m c) (hl : news.length = m * size) (hnews : ∀ j u, news[j]? = some u → w.cell? (ad.add j) = some u) (h1 : ∀ u ∈ news, u.oneCell' = true)
    (h63 : n + m ≤ maxLen) (hbytes : (n + m) * bytes ≤ 140737488355328) (hbase : base ≤ w.heap.size)
    (h : ∀ v' w', w'.ownsRow base e size v' (n + m) (xs ++ news) → w.grownBy w' v.ownBlock → K (a.put o.dst v') w') : Step P l Q i K a w := by
  obtain ⟨v', w', hr, h2, h3, _⟩ := run_append_own (P := P) w base t o.type e i0 z size bytes ht hi hz hsize hby hzs hsz v n xs hown ad m c news hl hnews h1 h63 hbytes hbase
  refine gstep_value ho hw v' w' ?_ (h v' w' h2 h3)
  simp only [execOp, hop, resolve, invoke, builtin, Sem.run_bind, Sem.run_pure, Result.andThen_ok, List.map_toArray, List.map_cons, List.map_nil, he, hx, hr]
theorem gstep_rowN {i : Nat} {o : Oper} {a : Act} {w : World} {K : Act → World → Prop} (ho : l[i]? = some o) (hw : WantedIs l a o true) (t : TypeId) (hop : o.op = .buildSlice t 0 #[]) (v' : Value) (w' : World)
    (hr : (Instr.buildSlice t 0 #[]).run P w = .ok v' w') (h : K (a.put o.dst v') w') : Step P l Q i K a w :=
  gstep_value ho hw v' w' (by simp only [execOp, hop, List.map_toArray, List.map_nil, Sem.run_bind, Sem.run_pure, hr, Result.andThen_ok]) h
theorem gstep_slice1 {i : Nat} {o : Oper} {a : Act} {w : World} {K : Act → World → Prop} (ho : l[i]? = some o) (hw : WantedIs l a o true) (t : TypeId) (s y : Operand) (hop : o.op = .slice t s none (some y) none) (v u : Value) (he : a.eval s = v) (hy : a.eval y = u) (v' : Value)
    (hr : (Instr.sliceAt t v none (some u) none).run P w = .ok v' w) (h : K (a.put o.dst v') w) : Step P l Q i K a w :=
  gstep_value ho hw v' w (by simp only [execOp, hop, Option.map_some, Option.map_none, he, hy, Sem.run_bind, Sem.run_pure, hr, Result.andThen_ok]) h
theorem gstep_slice2 {i : Nat} {o : Oper} {a : Act} {w : World} {K : Act → World → Prop} (ho : l[i]? = some o) (hw : WantedIs l a o true) (t : TypeId) (s y : Operand) (hop : o.op = .slice t s (some y) none none) (v u : Value) (he : a.eval s = v) (hy : a.eval y = u) (v' : Value)
    (hr : (Instr.sliceAt t v (some u) none none).run P w = .ok v' w) (h : K (a.put o.dst v') w) : Step P l Q i K a w :=
  gstep_value ho hw v' w (by simp only [execOp, hop, Option.map_some, Option.map_none, he, hy, Sem.run_bind, Sem.run_pure, hr, Result.andThen_ok]) h
end
end
section
open Go Go.RowKit
set_option linter.unusedVariables false
set_option maxRecDepth 100000

section
variable {P : Program} {Q : Exit → Act → World → Prop} {l : List Oper}

theorem head_waits {N : Nat} {listed : Array Bool} (hs : Region.sinkB .any l.toArray N = true) (hc : Region.chainB .any l.toArray N = true) (hN : N < l.length) (inv : HeadInv .any l.toArray N listed) (t : Nat) (ht : N ≤ t) (hr : t ∈ Region.ready .any l.toArray listed) : ∀ i, i < N → listed.getD i false = true := by
  intro i hi
  have hsz : N < l.toArray.size := by simpa using hN
  cases h : listed.getD i false with
  | true => rfl
  | false =>
    have hil : i < listed.size := by rw [inv.size]; omega
    exact absurd hr (tail_waits hs hc hsz inv _ i rfl hi (getD_in hil h) t ht)

/-- The tail's operations, one after another. -/
def tailK (P : Program) (l : List Oper) (Q : Exit → Act → World → Prop) : Nat → Nat → Act → World → Prop
  | 0, _ => fun a w => Q .normal a w
  | m + 1, t => fun a w => Step P l Q t (tailK P l Q m (t + 1)) a w

theorem tail_run {N : Nat} (hc : Region.chainB .any l.toArray N = true) (hb : backB l.toArray = true) :
    ∀ (m t : Nat), N ≤ t → l.length = t + m → ∀ (fuel : Nat) (listed : Array Bool) (a : Act) (w : World), listed.size = l.length → (∀ j, j < t → listed.getD j false = true) → (∀ j, t ≤ j → j < l.length → listed.getD j true = false) → m ≤ fuel →
      tailK P l Q m t a w → wpAny P .any l.toArray Q fuel listed a w := by
  intro m
  induction m with
  | zero =>
    intro t hNt hlen fuel listed a w hsz hd hu hf hK
    have hr0 : Region.ready .any l.toArray listed = [] := by
      apply List.eq_nil_iff_forall_not_mem.2
      intro j hj
      obtain ⟨hun', o', hoj', _⟩ := mem_ready.1 hj
      have hjl : j < l.toArray.size := (Array.getElem?_eq_some_iff.1 hoj').1
      have hjl' : j < l.length := by simpa using hjl
      have h1 := hd j (by omega)
      rw [getD_both hun'] at h1
      cases h1
    cases fuel with
    | zero => exact ⟨hr0, hK⟩
    | succ f => exact ⟨fun _ => hK, fun j hj => by rw [hr0] at hj; cases hj⟩
  | succ m ih =>
    intro t hNt hlen fuel listed a w hsz hd hu hf hK
    obtain ⟨f, rfl⟩ : ∃ f, fuel = f + 1 := ⟨fuel - 1, by omega⟩
    have hsz' : listed.size = l.toArray.size := by simpa using hsz
    have hne : Region.ready .any l.toArray listed ≠ [] := fun h => by
      have h1 := ready_nil hsz' hb h t (by simp; omega)
      rw [getD_both (hu t (Nat.le_refl _) (by omega))] at h1
      cases h1
    refine ⟨fun h => absurd h hne, fun i hi => ?_⟩
    obtain ⟨hun, o, ho, hall⟩ := mem_ready.1 hi
    have hil : i < l.length := by simpa using (Array.getElem?_eq_some_iff.1 ho).1
    have hti : t ≤ i := by
      rcases Nat.lt_or_ge i t with h | h
      · have h1 := hd i h
        rw [getD_both hun] at h1
        cases h1
      · exact h
    have hit : i = t := by
      rcases Nat.lt_or_ge t i with h | h
      · have h1 := List.all_eq_true.1 hc i (List.mem_range.2 (by simpa using hil))
        simp only [Bool.or_eq_true, decide_eq_true_eq] at h1
        rcases h1 with h1 | h1
        · omega
        · obtain ⟨o', ho', e, he, hbi, hon⟩ := Region.waitsFor_spec h1
          have : o' = o := Option.some.inj (ho'.symm.trans ho)
          subst this
          have h2 := hall e he hbi
          rw [hon, getD_both (hu (i - 1) (by omega) (by omega))] at h2
          cases h2
      · omega
    subst hit
    refine wpOp_mono ?_ hK.out
    intro a' w' hK'
    refine ih (i + 1) (by omega) (by omega) f _ a' w' (by simpa using hsz) (fun j hj => ?_) (fun j hj hjl => ?_) (by omega) hK'
    · by_cases hji : i = j
      · subst hji; simp [hsz, hil]
      · rw [getD_set_ne false hji]; exact hd j (by omega)
    · rw [getD_set_ne true (by omega)]; exact hu j (by omega) hjl

theorem any_of_facts_tail {a0 : Act} {w1 : World} {N m : Nat} (F : Nat → Value → World → Prop) (R : World → World → Prop)
    (hN : l.length = N + (m + 1)) (hs : Region.sinkB .any l.toArray N = true) (hc : Region.chainB .any l.toArray N = true) (hap : apartB l = true) (hb : backB l.toArray = true)
    (hkeep : ∀ i v w w', R w1 w → F i v w → R w w' → F i v w') (htrans : ∀ u v w, R u v → R v w → R u w)
    (hstep : ∀ i o, i < N → l[i]? = some o → ∀ (x : Nat → Value) (w : World), R w1 w → (∀ j, Region.waitsFor .any l.toArray i j = true → F j (x j) w) → (∀ j o, N ≤ j → l[j]? = some o → x j = slotOf a0 o) →
      wpOp P l.toArray Q i (fun a' w' => ∃ v, a' = (putAll x l 0 a0).put o.dst v ∧ F i v w' ∧ R w w') (putAll x l 0 a0) w)
    (hlast : ∀ (x : Nat → Value) (w : World), R w1 w → (∀ i, i < N → F i (x i) w) → tailK P l Q (m + 1) N (putAll x l 0 a0) w) :
    ∀ (fuel : Nat) (listed : Array Bool) (x : Nat → Value) (w : World), HeadInv .any l.toArray N listed → listed.toList.count false = fuel → R w1 w → (∀ j, j < N → listed.getD j false = true → F j (x j) w) → (∀ j o, N ≤ j → l[j]? = some o → x j = slotOf a0 o) →
      wpAny P .any l.toArray Q fuel listed (putAll x l 0 a0) w := by
  intro fuel
  have hsz : l.toArray.size = N + (m + 1) := by simpa using hN
  have hNl : ∀ listed : Array Bool, HeadInv .any l.toArray N listed → listed.getD N false = false ∧ N < listed.size := fun listed inv => ⟨getD_both (inv.tail N (Nat.le_refl _) (by omega)), by rw [inv.size, hsz]; omega⟩
  have hno : ∀ listed : Array Bool, HeadInv .any l.toArray N listed → Region.ready .any l.toArray listed ≠ [] := fun listed inv h => by
    have h1 := ready_nil inv.size hb h N (by omega)
    rw [(hNl listed inv).1] at h1
    cases h1
  have htl : ∀ listed : Array Bool, HeadInv .any l.toArray N listed → m + 1 ≤ listed.toList.count false := fun listed inv => by
    have e : listed.toList = listed.toList.take N ++ List.replicate (m + 1) false := by
      apply List.ext_getElem?
      intro j
      have hls : listed.toList.length = N + (m + 1) := by simpa [hsz] using inv.size
      rcases Nat.lt_or_ge j N with h | h
      · rw [List.getElem?_append_left (by simp [hls]; omega), List.getElem?_take_of_lt h]
      · rcases Nat.lt_or_ge j (N + (m + 1)) with h2 | h2
        · rw [List.getElem?_append_right (by simp [hls]; omega), List.getElem?_replicate]
          have h3 := inv.tail j h (by omega)
          have h4 : j < listed.size := by rw [inv.size, hsz]; omega
          have h5 : (listed.toList.take N).length = N := by simp [hls]
          have h7 : ¬ (j < listed.size → listed[j]! = true) ∨ True := .inr trivial
          have h6 : listed[j]'h4 = false := by simpa [h4] using h3
          rw [h5, if_pos (by omega)]
          simp [h4, h6]
        · rw [List.getElem?_eq_none (by omega), List.getElem?_eq_none (by simp [hls]; omega)]
    rw [e, List.count_append, List.count_replicate_self]
    omega
  induction fuel with
  | zero =>
    intro listed x w inv hcn hR hF hX
    have := htl listed inv
    omega
  | succ fuel ih =>
    intro listed x w inv hcn hR hF hX
    by_cases hrN : ∃ t, N ≤ t ∧ t ∈ Region.ready .any l.toArray listed
    · obtain ⟨t, htN, htr⟩ := hrN
      have hd := head_waits hs hc (by omega) inv t htN htr
      refine tail_run hc hb (m + 1) N (Nat.le_refl _) hN (fuel + 1) listed _ w (by rw [inv.size]; simp) hd (fun j hj hjl => inv.tail j hj (by simpa using hjl)) (by rw [← hcn]; exact htl listed inv) ?_
      exact hlast x w hR (fun j hj => hF j hj (hd j hj))
    refine ⟨fun h => absurd h (hno listed inv), fun i hi => ?_⟩
    obtain ⟨hun, o, ho, hall⟩ := mem_ready.1 hi
    have hil : i < listed.size := by rw [inv.size]; exact (Array.getElem?_eq_some_iff.1 ho).1
    have ho' : l[i]? = some o := by simpa using ho
    have hiN : i < N := by
      rcases Nat.lt_or_ge i N with h | h
      · exact h
      · exact absurd ⟨i, h, hi⟩ hrN
    refine wpOp_mono ?_ (hstep i o hiN ho' x w hR (fun j hj => ?_) hX)
    · rintro a' w' ⟨v, rfl, hFv, hRw⟩
      have e := putAll_set x v l 0 i o a0 hap ho'
      rw [e]
      refine ih _ _ _ (inv.set hi hiN) ?_ (htrans _ _ _ hR hRw) (fun j hjN hj => ?_) (fun j oj hj hoj => by rw [if_neg (by omega)]; exact hX j oj hj hoj)
      · have e1 : listed[i] = false := by simpa [hil] using hun
        rw [Array.toList_setIfInBounds, List.count_set (by simpa using hil)]
        have hc2 : Array.count false listed = fuel + 1 := by simpa using hcn
        simp [e1]
        omega
      · by_cases hji : j = 0 + i
        · simp only [hji, if_true]
          rw [show 0 + i = i by omega]
          exact hFv
        · simp only [hji, if_false]
          refine hkeep j _ w w' hR (hF j hjN ?_) hRw
          rw [getD_set_ne false (by omega)] at hj
          exact hj
    · obtain ⟨oj, hoj, e, he, hbi, hon⟩ := Region.waitsFor_spec hj
      obtain rfl : oj = o := Option.some.inj (hoj.symm.trans ho)
      have hle : e.on < i := by
        have h1 := List.all_eq_true.1 hb i (List.mem_range.2 (by omega))
        rw [ho] at h1
        have h2 := Array.all_eq_true'.1 h1 e he
        rw [hbi] at h2
        simpa using h2
      have := hall e he hbi
      rw [hon] at this hle
      exact hF j (by omega) this

/-- THE LAW with a tail that waits for all the rest. -/
theorem wp_region_steps_tail {id : Nat} {a0 : Act} {w0 : World} (N m : Nat) (F : Nat → Value → World → Prop) (R : World → World → Prop) (hm : P.follows .mixedOrders = true)
    (hN : l.length = N + (m + 1)) (hs : Region.sinkB .any l.toArray N = true) (hc : Region.chainB .any l.toArray N = true) (hap : apartB l = true) (hb : backB l.toArray = true)
    (hrefl : R w0.drew w0.drew) (hkeep : ∀ i v w w', R w0.drew w → F i v w → R w w' → F i v w') (htrans : ∀ u v w, R u v → R v w → R u w)
    (hstep : ∀ i o, i < N → l[i]? = some o → ∀ (x : Nat → Value) (w : World), R w0.drew w → (∀ j, Region.waitsFor .any l.toArray i j = true → F j (x j) w) → (∀ j o, N ≤ j → l[j]? = some o → x j = slotOf a0 o) →
      Step P l Q i (fun a' w' => ∃ v, a' = (putAll x l 0 a0).put o.dst v ∧ F i v w' ∧ R w w') (putAll x l 0 a0) w)
    (hlast : ∀ (x : Nat → Value) (w : World), R w0.drew w → (∀ i, i < N → F i (x i) w) → tailK P l Q (m + 1) N (putAll x l 0 a0) w) :
    (Code.region id l.toArray true).wp P Q a0 w0 := by
  refine wp_region_any hm ?_
  have hx : putAll (fun j => match l[j]? with | some o => slotOf a0 o | none => undef) l 0 a0 = a0 :=
    putAll_self a0 l 0 _ (fun j o ho => by simp only [Nat.zero_add, ho])
  have hT : ∀ t, N ≤ t → t < l.toArray.size → (Array.replicate l.length false).getD t true = false := by
    intro t h1 h2
    have h3 : t < l.length := by simpa using h2
    simp [h3]
  have h := any_of_facts_tail (P := P) (Q := Q) (a0 := a0) (w1 := w0.drew) (N := N) (m := m) F R hN hs hc hap hb hkeep htrans (fun i o hi ho x w hR hF hX => (hstep i o hi ho x w hR hF hX).out) hlast
    l.length (Array.replicate l.length false) (fun j => match l[j]? with | some o => slotOf a0 o | none => undef) w0.drew
    ⟨by simp, (fun j oj hj hl => by rw [getD_replicate_false] at hl; cases hl), hT⟩ (by simp) hrefl (fun j _ hj => by rw [getD_replicate_false] at hj; cases hj) (fun j o _ ho => by simp only [ho])
  rw [hx] at h
  simpa using h
end
end
end Go.Proofs.YtblcpihfnpgfiaaGreatDoor
