/- A region that draws its order, walked by what each operation leaves: each operation once, whatever the order; no condition but the ones named. -/
import Derived.StillTail
import Derived.Orders
namespace Go.Proofs.YtiknfifiglooeaaDoor
open Go
set_option linter.unusedVariables false

/-- The frame with x in the slots of the operations from the n-th on. -/
def putAll (x : Nat → Value) : List Oper → Nat → Act → Act
  | [], _, a => a
  | o :: os, n, a => putAll x os (n + 1) (a.put o.dst (x n))
/-- No two of the operations write one slot. -/
def apartB : List Oper → Bool
  | [] => true
  | o :: os => (match o.dst with | none => true | some d => os.all fun p => !(p.dst == some d)) && apartB os
/-- Each operation waits for earlier ones alone. -/
def backB (ops : Array Oper) : Bool :=
  (List.range ops.size).all fun j => match ops[j]? with | some o => o.after.all (fun e => !Region.binds .any e || decide (e.on < j)) | none => true
/-- What lies in the operation's slot. -/
def slotOf (a : Act) (o : Oper) : Value := match o.dst with | some d => a.tmps.getD d undef | none => undef

theorem put_self (a : Act) (o : Oper) : a.put o.dst (slotOf a o) = a := by
  unfold Act.put slotOf
  cases o.dst with
  | none => rfl
  | some d =>
    simp only
    have h : a.tmps.setIfInBounds d (a.tmps.getD d undef) = a.tmps := by
      apply Array.ext
      · simp
      · intro i h1 h2
        rw [Array.getElem_setIfInBounds (by simpa using h1)]
        split
        · rename_i hdi
          subst hdi
          simp only [Array.getD_eq_getD_getElem?, Array.getElem?_eq_getElem h2, Option.getD_some]
        · rfl
    rw [h]
theorem putAll_self (a : Act) : ∀ (os : List Oper) (n : Nat) (x : Nat → Value), (∀ j o, os[j]? = some o → x (n + j) = slotOf a o) → putAll x os n a = a := by
  intro os
  induction os with
  | nil => intro n x _; rfl
  | cons o os ih =>
    intro n x hx
    show putAll x os (n + 1) (a.put o.dst (x n)) = a
    have h0 := hx 0 o rfl
    rw [Nat.add_zero] at h0
    rw [h0, put_self]
    exact ih (n + 1) x (fun j p hp => by rw [show n + 1 + j = n + (j + 1) by omega]; exact hx (j + 1) p (by simpa using hp))
theorem putAll_congr (x y : Nat → Value) : ∀ (os : List Oper) (n : Nat) (a : Act), (∀ j, n ≤ j → x j = y j) → putAll x os n a = putAll y os n a := by
  intro os
  induction os with
  | nil => intro n a _; rfl
  | cons o os ih =>
    intro n a h
    show putAll x os (n + 1) (a.put o.dst (x n)) = putAll y os (n + 1) (a.put o.dst (y n))
    rw [h n (Nat.le_refl _)]
    exact ih (n + 1) _ (fun j hj => h j (by omega))
theorem put_put_apart (a : Act) (d e : Option Tmp) (u v : Value) (h : d = none ∨ d ≠ e) : (a.put d u).put e v = (a.put e v).put d u := by
  unfold Act.put
  cases d with
  | none => rfl
  | some d =>
    cases e with
    | none => rfl
    | some e =>
      rcases h with h | h
      · cases h
      · simp only
        rw [Array.setIfInBounds_comm]
        intro hde
        exact h (by rw [hde])
theorem put_put_same (a : Act) (d : Option Tmp) (u v : Value) : (a.put d u).put d v = a.put d v := by
  unfold Act.put
  cases d with
  | none => rfl
  | some d => simp
theorem putAll_put (x : Nat → Value) (d : Option Tmp) (v : Value) : ∀ (os : List Oper) (n : Nat) (a : Act), (d = none ∨ ∀ p ∈ os, p.dst ≠ d) → (putAll x os n a).put d v = putAll x os n (a.put d v) := by
  intro os
  induction os with
  | nil => intro n a _; rfl
  | cons o os ih =>
    intro n a h
    show (putAll x os (n + 1) (a.put o.dst (x n))).put d v = putAll x os (n + 1) ((a.put d v).put o.dst (x n))
    rw [ih (n + 1) _ (h.imp id fun h p hp => h p (List.mem_cons_of_mem _ hp))]
    congr 1
    rcases h with h | h
    · exact (put_put_apart a d o.dst v (x n) (.inl h)).symm
    · exact (put_put_apart a d o.dst v (x n) (.inr fun e => h o (List.mem_cons_self ..) e.symm)).symm
theorem putAll_set (x : Nat → Value) (v : Value) : ∀ (os : List Oper) (n i : Nat) (o : Oper) (a : Act), apartB os = true → os[i]? = some o →
    (putAll x os n a).put o.dst v = putAll (fun j => if j = n + i then v else x j) os n a := by
  intro os
  induction os with
  | nil => intro n i o a _ h; simp at h
  | cons p os ih =>
    intro n i o a hap hi
    unfold apartB at hap
    rw [Bool.and_eq_true] at hap
    cases i with
    | zero =>
      obtain rfl : p = o := by simpa using hi
      show (putAll x os (n + 1) (a.put p.dst (x n))).put p.dst v = putAll (fun j => if j = n + 0 then v else x j) os (n + 1) (a.put p.dst (if n = n + 0 then v else x n))
      rw [putAll_put x p.dst v os (n + 1) _ ?_, put_put_same, if_pos (by omega)]
      · exact putAll_congr _ _ _ _ _ (fun j hj => by rw [if_neg (by omega)])
      · cases hd : p.dst with
        | none => exact .inl rfl
        | some d =>
          refine .inr fun q hq => ?_
          have h1 := hap.1
          rw [hd] at h1
          have h2 := List.all_eq_true.1 h1 q hq
          simpa using h2
    | succ i =>
      show (putAll x os (n + 1) (a.put p.dst (x n))).put o.dst v = putAll (fun j => if j = n + (i + 1) then v else x j) os (n + 1) (a.put p.dst (if n = n + (i + 1) then v else x n))
      rw [if_neg (by omega), ih (n + 1) i o _ hap.2 (by simpa using hi)]
      exact putAll_congr _ _ _ _ _ (fun j _ => by rw [show n + 1 + i = n + (i + 1) by omega])

section
variable {P : Program} {Q : Exit → Act → World → Prop} {l : List Oper}

theorem ready_nil {ops : Array Oper} {listed : Array Bool} (hs : listed.size = ops.size) (hb : backB ops = true) (h : Region.ready .any ops listed = []) : ∀ j, j < ops.size → listed.getD j false = true := by
  intro j
  induction j using Nat.strongRecOn with
  | _ j ih =>
    intro hj
    cases hl : listed.getD j false with
    | true => rfl
    | false =>
      have hm : j ∈ Region.ready .any ops listed := by
        refine mem_ready.2 ⟨getD_in (by omega) hl, ops[j], Array.getElem?_eq_getElem hj, fun e he hbi => ?_⟩
        have h1 := List.all_eq_true.1 hb j (List.mem_range.2 hj)
        rw [Array.getElem?_eq_getElem hj] at h1
        have h2 := Array.all_eq_true'.1 h1 e he
        rw [hbi] at h2
        have h3 : e.on < j := by simpa using h2
        exact ih e.on h3 (by omega)
      rw [h] at hm
      cases hm

theorem any_of_facts {a0 : Act} {w1 : World} (F : Nat → Value → World → Prop) (R : World → World → Prop)
    (hap : apartB l = true) (hb : backB l.toArray = true)
    (hkeep : ∀ i v w w', R w1 w → F i v w → R w w' → F i v w') (htrans : ∀ u v w, R u v → R v w → R u w)
    (hstep : ∀ i o, l[i]? = some o → ∀ (x : Nat → Value) (w : World), R w1 w → (∀ j, Region.waitsFor .any l.toArray i j = true → F j (x j) w) →
      wpOp P l.toArray Q i (fun a' w' => ∃ v, a' = (putAll x l 0 a0).put o.dst v ∧ F i v w' ∧ R w w') (putAll x l 0 a0) w)
    (hend : ∀ (x : Nat → Value) (w : World), R w1 w → (∀ i, i < l.length → F i (x i) w) → Q .normal (putAll x l 0 a0) w) :
    ∀ (fuel : Nat) (listed : Array Bool) (x : Nat → Value) (w : World), listed.size = l.length → listed.toList.count false = fuel → R w1 w → (∀ j, listed.getD j false = true → F j (x j) w) →
      wpAny P .any l.toArray Q fuel listed (putAll x l 0 a0) w := by
  intro fuel
  have hfin : ∀ (listed : Array Bool) (x : Nat → Value) (w : World), listed.size = l.length → R w1 w → (∀ j, listed.getD j false = true → F j (x j) w) → Region.ready .any l.toArray listed = [] → Q .normal (putAll x l 0 a0) w :=
    fun listed x w hs hR hF h => hend x w hR (fun i hi => hF i (ready_nil (by simpa using hs) hb h i (by simpa using hi)))
  induction fuel with
  | zero =>
    intro listed x w hs hc hR hF
    have hr : Region.ready .any l.toArray listed = [] := by
      apply List.eq_nil_iff_forall_not_mem.2
      intro i hi
      obtain ⟨hun, o, ho, _⟩ := mem_ready.1 hi
      have hil : i < listed.size := by rw [hs]; have := (Array.getElem?_eq_some_iff.1 ho).1; simpa using this
      have hm : false ∈ listed.toList := by
        have e : listed[i] = false := by simpa [hil] using hun
        rw [← e]
        exact Array.getElem_mem_toList hil
      exact absurd hm (List.count_eq_zero.1 hc)
    exact ⟨hr, hfin listed x w hs hR hF hr⟩
  | succ fuel ih =>
    intro listed x w hs hc hR hF
    refine ⟨hfin listed x w hs hR hF, fun i hi => ?_⟩
    obtain ⟨hun, o, ho, hall⟩ := mem_ready.1 hi
    have hil : i < listed.size := by rw [hs]; have := (Array.getElem?_eq_some_iff.1 ho).1; simpa using this
    have ho' : l[i]? = some o := by simpa using ho
    refine wpOp_mono ?_ (hstep i o ho' x w hR (fun j hj => ?_))
    · rintro a' w' ⟨v, rfl, hFv, hRw⟩
      have e := putAll_set x v l 0 i o a0 hap ho'
      rw [e]
      refine ih _ _ _ (by simpa using hs) ?_ (htrans _ _ _ hR hRw) (fun j hj => ?_)
      · have e1 : listed[i] = false := by simpa [hil] using hun
        rw [Array.toList_setIfInBounds, List.count_set (by simpa using hil)]
        have hc2 : Array.count false listed = fuel + 1 := by simpa using hc
        simp [e1]
        omega
      · by_cases hji : j = 0 + i
        · simp only [hji, if_true]
          rw [show 0 + i = i by omega]
          exact hFv
        · simp only [hji, if_false]
          refine hkeep j _ w w' hR (hF j ?_) hRw
          rw [getD_set_ne false (by omega)] at hj
          exact hj
    · obtain ⟨oj, hoj, e, he, hbi, hon⟩ := Region.waitsFor_spec hj
      obtain rfl : oj = o := Option.some.inj (hoj.symm.trans ho)
      have := hall e he hbi
      rw [hon] at this
      exact hF j this

/-- THE LAW: each operation once, out of what those that it waits for have left; what it leaves must last (R). -/
theorem wp_region_facts {id : Nat} {a0 : Act} {w0 : World} (F : Nat → Value → World → Prop) (R : World → World → Prop) (hm : P.follows .mixedOrders = true)
    (hap : apartB l = true) (hb : backB l.toArray = true)
    (hrefl : R w0.drew w0.drew) (hkeep : ∀ i v w w', R w0.drew w → F i v w → R w w' → F i v w') (htrans : ∀ u v w, R u v → R v w → R u w)
    (hstep : ∀ i o, l[i]? = some o → ∀ (x : Nat → Value) (w : World), R w0.drew w → (∀ j, Region.waitsFor .any l.toArray i j = true → F j (x j) w) →
      wpOp P l.toArray Q i (fun a' w' => ∃ v, a' = (putAll x l 0 a0).put o.dst v ∧ F i v w' ∧ R w w') (putAll x l 0 a0) w)
    (hend : ∀ (x : Nat → Value) (w : World), R w0.drew w → (∀ i, i < l.length → F i (x i) w) → Q .normal (putAll x l 0 a0) w) :
    (Code.region id l.toArray true).wp P Q a0 w0 := by
  refine wp_region_any hm ?_
  have hx : putAll (fun j => match l[j]? with | some o => slotOf a0 o | none => undef) l 0 a0 = a0 :=
    putAll_self a0 l 0 _ (fun j o ho => by simp only [Nat.zero_add, ho])
  have h := any_of_facts (P := P) (Q := Q) (a0 := a0) (w1 := w0.drew) F R hap hb hkeep htrans hstep hend l.length (Array.replicate l.length false) (fun j => match l[j]? with | some o => slotOf a0 o | none => undef) w0.drew
    (by simp) (by simp) hrefl (fun j hj => by rw [getD_replicate_false] at hj; cases hj)
  rw [hx] at h
  simpa using h
end
/-! What an operation reads, in the frame of a region that is under way. -/
theorem eval_put_ne (a : Act) (d : Option Tmp) (v : Value) (t : Tmp) (h : d ≠ some t) : (a.put d v).eval (.tmp t) = a.eval (.tmp t) := by
  unfold Act.put Act.eval
  cases d with
  | none => rfl
  | some d =>
    have hne : d ≠ t := fun e => h (by rw [e])
    simp only [Array.getD_eq_getD_getElem?]
    rw [Array.getElem?_setIfInBounds_ne hne]
theorem size_put (a : Act) (d : Option Tmp) (v : Value) : (a.put d v).tmps.size = a.tmps.size := by
  unfold Act.put
  cases d with
  | none => rfl
  | some d => simp
theorem eval_put_eq (a : Act) (t : Tmp) (v : Value) (h : t < a.tmps.size) : (a.put (some t) v).eval (.tmp t) = v := by
  unfold Act.put Act.eval
  simp only [Array.getD_eq_getD_getElem?]
  rw [Array.getElem?_setIfInBounds_self_of_lt h]
  rfl
theorem eval_out (x : Nat → Value) (t : Tmp) : ∀ (os : List Oper) (n : Nat) (a : Act), (os.all fun o => !(o.dst == some t)) = true → (putAll x os n a).eval (.tmp t) = a.eval (.tmp t) := by
  intro os
  induction os with
  | nil => intro n a _; rfl
  | cons o os ih =>
    intro n a h
    rw [List.all_cons, Bool.and_eq_true] at h
    show (putAll x os (n + 1) (a.put o.dst (x n))).eval (.tmp t) = a.eval (.tmp t)
    rw [ih (n + 1) _ h.2, eval_put_ne]
    have h1 := h.1
    intro e
    rw [e] at h1
    simp at h1
theorem eval_in (x : Nat → Value) (t : Tmp) : ∀ (os : List Oper) (n j : Nat) (o : Oper) (a : Act), apartB os = true → os[j]? = some o → o.dst = some t → t < a.tmps.size → (putAll x os n a).eval (.tmp t) = x (n + j) := by
  intro os
  induction os with
  | nil => intro n j o a _ h; simp at h
  | cons p os ih =>
    intro n j o a hap hj hd ht
    unfold apartB at hap
    rw [Bool.and_eq_true] at hap
    cases j with
    | zero =>
      obtain rfl : p = o := by simpa using hj
      show (putAll x os (n + 1) (a.put p.dst (x n))).eval (.tmp t) = x n
      rw [hd, eval_out x t os (n + 1) _ (by have h1 := hap.1; rw [hd] at h1; exact h1), eval_put_eq a t _ ht]
    | succ j =>
      show (putAll x os (n + 1) (a.put p.dst (x n))).eval (.tmp t) = x (n + (j + 1))
      rw [ih (n + 1) j o _ hap.2 (by simpa using hj) hd (by rw [size_put]; exact ht)]
      rw [show n + 1 + j = n + (j + 1) by omega]

section
variable {P : Program} {Q : Exit → Act → World → Prop} {l : List Oper}
theorem step_value {i : Nat} {o : Oper} {a : Act} {w : World} {K : Act → World → Prop} (ho : l[i]? = some o) (hg : o.guard = none) (v : Value) (w' : World)
    (hr : (execOp a.eval o).run P w = .ok (.value v) w') (h : K (a.put o.dst v) w') : wpOp P l.toArray Q i K a w := by
  unfold wpOp
  rw [show l.toArray[i]? = some o by simpa using ho]
  have hw : Region.wanted o (yielded l.toArray a.tmps) = true := by simp [Region.wanted, hg]
  simp only [hw, if_true]
  left
  unfold Oper.wp
  rw [hr]
  exact h
theorem step_enter {i : Nat} {o : Oper} {a : Act} {w : World} {K : Act → World → Prop} (ho : l[i]? = some o) (hg : o.guard = none) (f : FuncId) (args : Array Value) (w' : World)
    (hr : (execOp a.eval o).run P w = .ok (.enter f args) w') (h : Calls P f args w' fun e w'' => ∃ v, e = .returned v ∧ K (a.put o.dst v) w'') : wpOp P l.toArray Q i K a w := by
  unfold wpOp
  rw [show l.toArray[i]? = some o by simpa using ho]
  have hw : Region.wanted o (yielded l.toArray a.tmps) = true := by simp [Region.wanted, hg]
  simp only [hw, if_true]
  left
  unfold Oper.wp
  rw [hr]
  refine Calls.mono h ?_
  rintro e w'' ⟨v, rfl, hk⟩
  exact hk
theorem step_move {i : Nat} {o : Oper} {a : Act} {w : World} {K : Act → World → Prop} (ho : l[i]? = some o) (hg : o.guard = none) (s : Operand) (hop : o.op = .move s) (v : Value) (he : a.eval s = v) (h : K (a.put o.dst v) w) : wpOp P l.toArray Q i K a w :=
  step_value ho hg v w (by simp only [execOp, hop, he, Sem.run_pure]) h
theorem step_assign {i : Nat} {o : Oper} {a : Act} {w : World} {K : Act → World → Prop} (ho : l[i]? = some o) (hg : o.guard = none) (s : Operand) (hop : o.op = .assign s) (v : Value) (he : a.eval s = v) (h : K (a.put o.dst v) w) : wpOp P l.toArray Q i K a w :=
  step_value ho hg v w (by simp only [execOp, hop, he, Sem.run_pure]) h
theorem step_convert {i : Nat} {o : Oper} {a : Act} {w : World} {K : Act → World → Prop} (ho : l[i]? = some o) (hg : o.guard = none) (t1 t2 : TypeId) (s : Operand) (hop : o.op = .convert t1 t2 s) (v : Value) (he : a.eval s = v) (v' : Value) (w' : World)
    (hr : (convert t1 t2 v).run P w = .ok v' w') (h : K (a.put o.dst v') w') : wpOp P l.toArray Q i K a w :=
  step_value ho hg v' w' (by simp only [execOp, hop, he, Sem.run_bind, Sem.run_pure, hr, Result.andThen_ok]) h
theorem step_cut {i : Nat} {o : Oper} {a : Act} {w : World} {K : Act → World → Prop} (ho : l[i]? = some o) (hg : o.guard = none) (t : TypeId) (s1 s2 : Operand) (hop : o.op = .slice t s1 none (some s2) none) (v1 v2 : Value) (he1 : a.eval s1 = v1) (he2 : a.eval s2 = v2) (v' : Value) (w' : World)
    (hr : (Instr.sliceAt t v1 none (some v2) none).run P w = .ok v' w') (h : K (a.put o.dst v') w') : wpOp P l.toArray Q i K a w :=
  step_value ho hg v' w' (by simp only [execOp, hop, he1, he2, Option.map_some, Option.map_none, Sem.run_bind, Sem.run_pure, hr, Result.andThen_ok]) h
theorem step_build {i : Nat} {o : Oper} {a : Act} {w : World} {K : Act → World → Prop} (ho : l[i]? = some o) (hg : o.guard = none) (t : TypeId) (s : Operand) (hop : o.op = .buildSlice t 1 #[(0, s)]) (v : Value) (he : a.eval s = v) (v' : Value) (w' : World)
    (hr : (Instr.buildSlice t 1 #[(0, v)]).run P w = .ok v' w') (h : K (a.put o.dst v') w') : wpOp P l.toArray Q i K a w :=
  step_value ho hg v' w' (by simp only [execOp, hop, he, List.map_toArray, List.map_cons, List.map_nil, Sem.run_bind, Sem.run_pure, hr, Result.andThen_ok]) h
theorem step_bin {i : Nat} {o : Oper} {a : Act} {w : World} {K : Act → World → Prop} (ho : l[i]? = some o) (hg : o.guard = none) (b : BinOp) (t u : TypeId) (s1 s2 : Operand) (hop : o.op = .binOp b t s1 s2 u) (v1 v2 : Value) (he1 : a.eval s1 = v1) (he2 : a.eval s2 = v2) (v' : Value)
    (hr : (do eqGuard b t s1 s2 v1 v2; binOp b t v1 v2 : Sem Value).run P w = .ok v' w) (h : K (a.put o.dst v') w) : wpOp P l.toArray Q i K a w :=
  step_value ho hg v' w (by rw [show execOp a.eval o = (do pure (.value (← (do eqGuard b t s1 s2 v1 v2; binOp b t v1 v2 : Sem Value))) : Sem Next) by simp only [execOp, hop, he1, he2]]; simp only [Sem.run_bind, Sem.run_pure] at hr ⊢; rw [hr]; rfl) h
theorem step_call {i : Nat} {o : Oper} {a : Act} {w : World} {K : Act → World → Prop} (ho : l[i]? = some o) (hg : o.guard = none) (f : FuncId) (s : Operand) (ts : Array TypeId) (hop : o.op = .call { callee := .value (.func f), args := #[s], argTypes := ts }) (v : Value) (he : a.eval s = v) (hf : (callFunc f #[v]).run P w = .ok (.enter f #[v]) w)
    (h : Calls P f #[v] w fun e w'' => ∃ v, e = .returned v ∧ K (a.put o.dst v) w'') : wpOp P l.toArray Q i K a w :=
  step_enter ho hg f #[v] w (by simp only [execOp, hop, resolve, invoke, Deferred.ofValue, show a.eval (.func f) = .func (.func f) #[] #[] from rfl, List.map_toArray, List.map_cons, List.map_nil, he, Sem.run_bind, Sem.run_pure, Result.andThen_ok]; simpa using hf) h
theorem eval_at {x : Nat → Value} {os : List Oper} {a : Act} (t : Tmp) (j : Nat) (v : Value) (h : (apartB os && (match os[j]? with | some o => o.dst == some t | none => false)) = true) (ht : t < a.tmps.size) (hv : x j = v) : (putAll x os 0 a).eval (.tmp t) = v := by
  rw [Bool.and_eq_true] at h
  cases hj : os[j]? with
  | none => rw [hj] at h; simp at h
  | some o =>
    rw [hj] at h
    rw [eval_in x t os 0 j o a h.1 hj (by simpa using h.2) ht, Nat.zero_add]
    exact hv
theorem eval_of {x : Nat → Value} {os : List Oper} {a : Act} (t : Tmp) (v : Value) (h : (os.all fun o => !(o.dst == some t)) = true) (hv : a.eval (.tmp t) = v) : (putAll x os 0 a).eval (.tmp t) = v := by
  rw [eval_out x t os 0 a h]; exact hv
end
theorem putAll_defers (x : Nat → Value) : ∀ (os : List Oper) (n : Nat) (a : Act), (putAll x os n a).defers = a.defers := by
  intro os
  induction os with
  | nil => intro n a; rfl
  | cons o os ih =>
    intro n a
    show (putAll x os (n + 1) (a.put o.dst (x n))).defers = a.defers
    rw [ih]
    unfold Act.put
    cases o.dst <;> rfl
theorem results_one {P : Program} {fn : Func} (t : Tmp) (hr : fn.results = #[.tmp t]) {a : Act} {v : Value} (h : a.eval (.tmp t) = v) (w : World) : (results fn a.tmps).run P w = .ok v w := by
  have h' : a.tmps.getD t undef = v := h
  unfold results
  rw [hr]
  simp [go_sem] at h' ⊢
  exact h'
end Go.Proofs.YtiknfifiglooeaaDoor
