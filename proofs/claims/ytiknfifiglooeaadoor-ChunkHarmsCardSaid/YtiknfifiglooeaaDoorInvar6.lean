/- A region that draws its order, walked by one invariant over what has run: each operation once, whatever the order; no condition but the ones named. -/
import Derived.Test.YtiknfifiglooeaaDoorInvar4
import Derived.Laws.AppendOwn
namespace Go.Proofs.YtiknfifiglooeaaDoor
open Go Go.RowKit
set_option linter.unusedVariables false
set_option maxRecDepth 100000

section
variable {P : Program} {Q : Exit → Act → World → Prop} {l : List Oper}
def setB (b : Nat → Bool) (i : Nat) : Nat → Bool := fun j => if j = i then true else b j
def setX (x : Nat → Value) (i : Nat) (v : Value) : Nat → Value := fun j => if j = i then v else x j
theorem setB_same (b : Nat → Bool) (i : Nat) : setB b i i = true := by simp [setB]
theorem setB_ne {b : Nat → Bool} {i j : Nat} (h : j ≠ i) : setB b i j = b j := by simp [setB, h]
theorem setX_same (x : Nat → Value) (i : Nat) (v : Value) : setX x i v i = v := by simp [setX]
theorem setX_ne {x : Nat → Value} {i j : Nat} {v : Value} (h : j ≠ i) : setX x i v j = x j := by simp [setX, h]
theorem any_of_inv {a0 : Act} (I : (Nat → Bool) → (Nat → Value) → World → Prop) (hap : apartB l = true) (hb : backB l.toArray = true)
    (hstep : ∀ i o, l[i]? = some o → ∀ (b : Nat → Bool) (x : Nat → Value) (w : World), I b x w → b i = false → (∀ j, Region.waitsFor .any l.toArray i j = true → b j = true) →
      wpOp P l.toArray Q i (fun a' w' => ∃ v, a' = (putAll x l 0 a0).put o.dst v ∧ I (setB b i) (setX x i v) w') (putAll x l 0 a0) w)
    (hend : ∀ (b : Nat → Bool) (x : Nat → Value) (w : World), I b x w → (∀ i, i < l.length → b i = true) → Q .normal (putAll x l 0 a0) w) :
    ∀ (fuel : Nat) (listed : Array Bool) (x : Nat → Value) (w : World), listed.size = l.length → listed.toList.count false = fuel → I (fun j => listed.getD j false) x w →
      wpAny P .any l.toArray Q fuel listed (putAll x l 0 a0) w := by
  intro fuel
  have hfin : ∀ (listed : Array Bool) (x : Nat → Value) (w : World), listed.size = l.length → I (fun j => listed.getD j false) x w → Region.ready .any l.toArray listed = [] → Q .normal (putAll x l 0 a0) w :=
    fun listed x w hs hI h => hend _ x w hI (fun i hi => ready_nil (by simpa using hs) hb h i (by simpa using hi))
  induction fuel with
  | zero =>
    intro listed x w hs hc hI
    have hr : Region.ready .any l.toArray listed = [] := by
      apply List.eq_nil_iff_forall_not_mem.2
      intro i hi
      obtain ⟨hun, o, ho, _⟩ := mem_ready.1 hi
      have hil : i < listed.size := by rw [hs]; have := (Array.getElem?_eq_some_iff.1 ho).1; simpa using this
      have hm : false ∈ listed.toList := by
        have e : listed[i] = false := by simpa [hil] using hun
        rw [← e]
        exact Array.getElem_mem_toList hil
      exact absurd hm (List.count_eq_zero.1 hc)
    exact ⟨hr, hfin listed x w hs hI hr⟩
  | succ fuel ih =>
    intro listed x w hs hc hI
    refine ⟨hfin listed x w hs hI, fun i hi => ?_⟩
    obtain ⟨hun, o, ho, hall⟩ := mem_ready.1 hi
    have hil : i < listed.size := by rw [hs]; have := (Array.getElem?_eq_some_iff.1 ho).1; simpa using this
    have ho' : l[i]? = some o := by simpa using ho
    have e1 : listed[i] = false := by simpa [hil] using hun
    refine wpOp_mono ?_ (hstep i o ho' _ x w hI (by simp [hil, e1]) (fun j hj => ?_))
    · rintro a' w' ⟨v, rfl, hI'⟩
      have e := putAll_set x v l 0 i o a0 hap ho'
      rw [e]
      have hx : (fun j => if j = 0 + i then v else x j) = setX x i v := by funext j; unfold setX; rw [Nat.zero_add]
      rw [hx]
      refine ih _ _ _ (by simpa using hs) ?_ ?_
      · rw [Array.toList_setIfInBounds, List.count_set (by simpa using hil)]
        have hc2 : Array.count false listed = fuel + 1 := by simpa using hc
        simp [e1]
        omega
      · have hbb : (fun j => (listed.setIfInBounds i true).getD j false) = setB (fun j => listed.getD j false) i := by
          funext j
          unfold setB
          by_cases hji : j = i
          · subst hji; simp [hil]
          · rw [getD_set_ne false (by omega), if_neg hji]
        rw [hbb]; exact hI'
    · obtain ⟨oj, hoj, e, he, hbi, hon⟩ := Region.waitsFor_spec hj
      obtain rfl : oj = o := Option.some.inj (hoj.symm.trans ho)
      have := hall e he hbi
      rw [hon] at this
      exact this
/-- THE LAW: a region that draws its order, by an invariant over what has run. -/
theorem wp_region_inv {id : Nat} {a0 : Act} {w0 : World} (I : (Nat → Bool) → (Nat → Value) → World → Prop) (hm : P.follows .mixedOrders = true) (hap : apartB l = true) (hb : backB l.toArray = true)
    (h0 : ∀ x, I (fun _ => false) x w0.drew)
    (hstep : ∀ i o, l[i]? = some o → ∀ (b : Nat → Bool) (x : Nat → Value) (w : World), I b x w → b i = false → (∀ j, Region.waitsFor .any l.toArray i j = true → b j = true) →
      Step P l Q i (fun a' w' => ∃ v, a' = (putAll x l 0 a0).put o.dst v ∧ I (setB b i) (setX x i v) w') (putAll x l 0 a0) w)
    (hend : ∀ (b : Nat → Bool) (x : Nat → Value) (w : World), I b x w → (∀ i, i < l.length → b i = true) → Q .normal (putAll x l 0 a0) w) :
    (Code.region id l.toArray true).wp P Q a0 w0 := by
  refine wp_region_any hm ?_
  have hx : putAll (fun j => match l[j]? with | some o => slotOf a0 o | none => undef) l 0 a0 = a0 :=
    putAll_self a0 l 0 _ (fun j o ho => by simp only [Nat.zero_add, ho])
  have h := any_of_inv (P := P) (Q := Q) (a0 := a0) I hap hb (fun i o ho b x w hI hbi hW => (hstep i o ho b x w hI hbi hW).out) hend l.length (Array.replicate l.length false) (fun j => match l[j]? with | some o => slotOf a0 o | none => undef) w0.drew
    (by simp) (by simp) (by
      have e : (fun j => (Array.replicate l.length false).getD j false) = fun _ => false := by funext j; exact getD_replicate_false _ _
      rw [e]; exact h0 _)
  rw [hx] at h
  simpa using h
theorem any_of_inv_last {a0 : Act} {N : Nat} (I : (Nat → Bool) → (Nat → Value) → World → Prop)
    (hN : l.length = N + 1) (hs : Region.sinkB .any l.toArray N = true) (hap : apartB l = true) (hb : backB l.toArray = true)
    (hstep : ∀ i o, i < N → l[i]? = some o → ∀ (b : Nat → Bool) (x : Nat → Value) (w : World), I b x w → b i = false → (∀ j, Region.waitsFor .any l.toArray i j = true → b j = true) →
      wpOp P l.toArray Q i (fun a' w' => ∃ v, a' = (putAll x l 0 a0).put o.dst v ∧ I (setB b i) (setX x i v) w') (putAll x l 0 a0) w)
    (hlast : ∀ o, l[N]? = some o → ∀ (b : Nat → Bool) (x : Nat → Value) (w : World), I b x w → (∀ i, i < N → b i = true) → wpOp P l.toArray Q N (fun a' w' => Q .normal a' w') (putAll x l 0 a0) w) :
    ∀ (fuel : Nat) (listed : Array Bool) (x : Nat → Value) (w : World), HeadInv .any l.toArray N listed → listed.toList.count false = fuel → I (fun j => listed.getD j false) x w →
      wpAny P .any l.toArray Q fuel listed (putAll x l 0 a0) w := by
  intro fuel
  have hsz : l.toArray.size = N + 1 := by simpa using hN
  have hNl : ∀ listed : Array Bool, HeadInv .any l.toArray N listed → listed.getD N false = false ∧ N < listed.size := fun listed inv => ⟨getD_both (inv.tail N (Nat.le_refl _) (by omega)), by rw [inv.size, hsz]; omega⟩
  have hno : ∀ listed : Array Bool, HeadInv .any l.toArray N listed → Region.ready .any l.toArray listed ≠ [] := fun listed inv h => by
    have h1 := ready_nil inv.size hb h N (by omega)
    rw [(hNl listed inv).1] at h1
    cases h1
  have hcount : ∀ listed : Array Bool, HeadInv .any l.toArray N listed → 0 < listed.toList.count false := fun listed inv => by
    obtain ⟨h1, h2⟩ := hNl listed inv
    refine List.count_pos_iff.2 ?_
    have e : listed[N] = false := by simpa [h2] using h1
    rw [← e]
    exact Array.getElem_mem_toList h2
  induction fuel with
  | zero =>
    intro listed x w inv hc hI
    have := hcount listed inv
    omega
  | succ fuel ih =>
    intro listed x w inv hc hI
    refine ⟨fun h => absurd h (hno listed inv), fun i hi => ?_⟩
    obtain ⟨hun, o, ho, hall⟩ := mem_ready.1 hi
    have hil : i < listed.size := by rw [inv.size]; exact (Array.getElem?_eq_some_iff.1 ho).1
    have ho' : l[i]? = some o := by simpa using ho
    have e1 : listed[i] = false := by simpa [hil] using hun
    have hiN : i < N ∨ i = N := by have := inv.size; omega
    rcases hiN with hiN | rfl
    · refine wpOp_mono ?_ (hstep i o hiN ho' _ x w hI (by simp [hil, e1]) (fun j hj => ?_))
      · rintro a' w' ⟨v, rfl, hI'⟩
        have e := putAll_set x v l 0 i o a0 hap ho'
        rw [e]
        have hx : (fun j => if j = 0 + i then v else x j) = setX x i v := by funext j; unfold setX; rw [Nat.zero_add]
        rw [hx]
        refine ih _ _ _ (inv.set hi hiN) ?_ ?_
        · rw [Array.toList_setIfInBounds, List.count_set (by simpa using hil)]
          have hc2 : Array.count false listed = fuel + 1 := by simpa using hc
          simp [e1]
          omega
        · have hbb : (fun j => (listed.setIfInBounds i true).getD j false) = setB (fun j => listed.getD j false) i := by
            funext j
            unfold setB
            by_cases hji : j = i
            · subst hji; simp [hil]
            · rw [getD_set_ne false (by omega), if_neg hji]
          rw [hbb]; exact hI'
      · obtain ⟨oj, hoj, e, he, hbi, hon⟩ := Region.waitsFor_spec hj
        obtain rfl : oj = o := Option.some.inj (hoj.symm.trans ho)
        have := hall e he hbi
        rw [hon] at this
        exact this
    · have hd := last_waits hs hN inv hi
      refine wpOp_mono ?_ (hlast o ho' _ x w hI hd)
      intro a' w' hq
      have hall' : ∀ j, j < i + 1 → (listed.setIfInBounds i true).getD j false = true := fun j hj => by
        by_cases hji : i = j
        · subst hji; simp [hil]
        · rw [getD_set_ne false hji]; exact hd j (by omega)
      have hr0 : Region.ready .any l.toArray (listed.setIfInBounds i true) = [] := by
        apply List.eq_nil_iff_forall_not_mem.2
        intro j hj
        obtain ⟨hun', o', hoj', _⟩ := mem_ready.1 hj
        have hjl : j < l.toArray.size := (Array.getElem?_eq_some_iff.1 hoj').1
        have h1 := hall' j (by omega)
        rw [getD_both hun'] at h1
        cases h1
      cases fuel with
      | zero => exact ⟨hr0, hq⟩
      | succ f => exact ⟨fun _ => hq, fun j hj => by rw [hr0] at hj; cases hj⟩
/-- THE LAW: a region that draws its order, by an invariant over what has run; a last operation that waits for all the others. -/
theorem wp_region_inv_last {id : Nat} {a0 : Act} {w0 : World} (N : Nat) (I : (Nat → Bool) → (Nat → Value) → World → Prop) (hm : P.follows .mixedOrders = true)
    (hN : l.length = N + 1) (hs : Region.sinkB .any l.toArray N = true) (hap : apartB l = true) (hb : backB l.toArray = true)
    (h0 : ∀ x, I (fun _ => false) x w0.drew)
    (hstep : ∀ i o, i < N → l[i]? = some o → ∀ (b : Nat → Bool) (x : Nat → Value) (w : World), I b x w → b i = false → (∀ j, Region.waitsFor .any l.toArray i j = true → b j = true) →
      Step P l Q i (fun a' w' => ∃ v, a' = (putAll x l 0 a0).put o.dst v ∧ I (setB b i) (setX x i v) w') (putAll x l 0 a0) w)
    (hlast : ∀ o, l[N]? = some o → ∀ (b : Nat → Bool) (x : Nat → Value) (w : World), I b x w → (∀ i, i < N → b i = true) → Step P l Q N (fun a' w' => Q .normal a' w') (putAll x l 0 a0) w) :
    (Code.region id l.toArray true).wp P Q a0 w0 := by
  refine wp_region_any hm ?_
  have hx : putAll (fun j => match l[j]? with | some o => slotOf a0 o | none => undef) l 0 a0 = a0 :=
    putAll_self a0 l 0 _ (fun j o ho => by simp only [Nat.zero_add, ho])
  have hT : ∀ t, N ≤ t → t < l.toArray.size → (Array.replicate l.length false).getD t true = false := by
    intro t h1 h2
    have h3 : t < l.length := by simpa using h2
    simp [h3]
  have h := any_of_inv_last (P := P) (Q := Q) (a0 := a0) (N := N) I hN hs hap hb (fun i o hi ho b x w hI hbi hW => (hstep i o hi ho b x w hI hbi hW).out) (fun o ho b x w hI hA => (hlast o ho b x w hI hA).out)
    l.length (Array.replicate l.length false) (fun j => match l[j]? with | some o => slotOf a0 o | none => undef) w0.drew
    ⟨by simp, (fun j oj hj hl => by rw [getD_replicate_false] at hl; cases hl), hT⟩ (by simp) (by
      have e : (fun j => (Array.replicate l.length false).getD j false) = fun _ => false := by funext j; exact getD_replicate_false _ _
      rw [e]; exact h0 _)
  rw [hx] at h
  simpa using h
/-- Facts of what has run, and a word about the world. -/
def IFJ (F : Nat → Value → Prop) (J : (Nat → Bool) → (Nat → Value) → World → Prop) (b : Nat → Bool) (x : Nat → Value) (w : World) : Prop := (∀ j, b j = true → F j (x j)) ∧ J b x w
theorem IFJ.step {F : Nat → Value → Prop} {J : (Nat → Bool) → (Nat → Value) → World → Prop} {b : Nat → Bool} {x : Nat → Value} {w w' : World} (h : IFJ F J b x w) {i : Nat} {v : Value} (hv : F i v) (hj : J (setB b i) (setX x i v) w') : IFJ F J (setB b i) (setX x i v) w' := by
  refine ⟨fun j hj => ?_, hj⟩
  by_cases e : j = i
  · rw [e, setX_same]; exact hv
  · rw [setX_ne e]; rw [setB_ne e] at hj; exact h.1 j hj
theorem gstep_append {i : Nat} {o : Oper} {a : Act} {w : World} {K : Act → World → Prop} (ho : l[i]? = some o) (hw : WantedIs l a o true) (s y : Operand) (t : TypeId) (hop : o.op = .call { callee := .builtin .append, args := #[s, y], argTypes := #[t, t] })
    (base : Nat) (e : TypeId) (i0 : TypeInfo) (z : Value) (size bytes : Nat) (ht : P.underlying t = some (.slice e)) (hi : P.info? e = some i0) (hz : i0.zero = some z)
    (hsize : i0.size = size) (hby : i0.bytes = bytes) (hzs : z.cells.size = size) (hsz : 0 < size)
    (v : Value) (n : Nat) (xs : List Value) (he : a.eval s = v) (hown : w.ownsRow base e size v n xs)
    (ad : Addr) (m c : Nat) (news : List Value) (hx : a.eval y = .slice (some ad) m c) (hl : news.length = m * size) (hnews : ∀ j u, news[j]? = some u → w.cell? (ad.add j) = some u) (h1 : ∀ u ∈ news, u.oneCell' = true)
    (h63 : n + m ≤ maxLen) (hbytes : (n + m) * bytes ≤ 140737488355328) (hbase : base ≤ w.heap.size)
    (h : ∀ v' w', w'.ownsRow base e size v' (n + m) (xs ++ news) → w.grownBy w' v.ownBlock → K (a.put o.dst v') w') : Step P l Q i K a w := by
  obtain ⟨v', w', hr, h2, h3, _⟩ := run_append_own (P := P) w base t o.type e i0 z size bytes ht hi hz hsize hby hzs hsz v n xs hown ad m c news hl hnews h1 h63 hbytes hbase
  refine gstep_value ho hw v' w' ?_ (h v' w' h2 h3)
  simp only [execOp, hop, resolve, invoke, builtin, Sem.run_bind, Sem.run_pure, Result.andThen_ok, List.map_toArray, List.map_cons, List.map_nil, he, hx, hr]
theorem gstep_rowN {i : Nat} {o : Oper} {a : Act} {w : World} {K : Act → World → Prop} (ho : l[i]? = some o) (hw : WantedIs l a o true) (t : TypeId) (hop : o.op = .buildSlice t 0 #[]) (v' : Value) (w' : World)
    (hr : (Instr.buildSlice t 0 #[]).run P w = .ok v' w') (h : K (a.put o.dst v') w') : Step P l Q i K a w :=
  gstep_value ho hw v' w' (by simp only [execOp, hop, List.map_toArray, List.map_nil, Sem.run_bind, Sem.run_pure, hr, Result.andThen_ok]) h
theorem gstep_slice1 {i : Nat} {o : Oper} {a : Act} {w : World} {K : Act → World → Prop} (ho : l[i]? = some o) (hw : WantedIs l a o true) (t : TypeId) (s y : Operand) (hop : o.op = .slice t s none (some y) none) (v u : Value) (he : a.eval s = v) (hy : a.eval y = u) (v' : Value)
    (hr : (Instr.sliceAt t v none (some u) none).run P w = .ok v' w) (h : K (a.put o.dst v') w) : Step P l Q i K a w :=
  gstep_value ho hw v' w (by simp only [execOp, hop, Option.map_some, Option.map_none, he, hy, Sem.run_bind, Sem.run_pure, hr, Result.andThen_ok]) h
theorem gstep_slice2 {i : Nat} {o : Oper} {a : Act} {w : World} {K : Act → World → Prop} (ho : l[i]? = some o) (hw : WantedIs l a o true) (t : TypeId) (s y : Operand) (hop : o.op = .slice t s (some y) none none) (v u : Value) (he : a.eval s = v) (hy : a.eval y = u) (v' : Value)
    (hr : (Instr.sliceAt t v (some u) none none).run P w = .ok v' w) (h : K (a.put o.dst v') w) : Step P l Q i K a w :=
  gstep_value ho hw v' w (by simp only [execOp, hop, Option.map_some, Option.map_none, he, hy, Sem.run_bind, Sem.run_pure, hr, Result.andThen_ok]) h
end
end Go.Proofs.YtiknfifiglooeaaDoor
