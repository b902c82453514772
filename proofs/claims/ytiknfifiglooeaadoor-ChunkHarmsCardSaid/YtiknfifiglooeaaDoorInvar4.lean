/- A region that draws its order and whose last operation waits for all the others: the facts' law, with a last step of its own (a store into a cell that the others read). -/
import Derived.Test.YtiknfifiglooeaaDoorInvar3
import Derived.StillTail
namespace Go.Proofs.YtiknfifiglooeaaDoor
open Go Go.RowKit
set_option linter.unusedVariables false
set_option maxRecDepth 100000

section
variable {P : Program} {Q : Exit → Act → World → Prop} {l : List Oper}

theorem last_waits {N : Nat} {listed : Array Bool} (hs : Region.sinkB .any l.toArray N = true) (hN : l.length = N + 1) (inv : HeadInv .any l.toArray N listed) (hr : N ∈ Region.ready .any l.toArray listed) : ∀ i, i < N → listed.getD i false = true := by
  intro i hi
  have hsz : l.toArray.size = N + 1 := by simpa using hN
  cases h : listed.getD i false with
  | true => rfl
  | false =>
    have hc : Region.chainB .any l.toArray N = true := by
      unfold Region.chainB
      refine List.all_eq_true.2 fun t ht => ?_
      have := List.mem_range.1 ht
      rw [hsz] at this
      simp
      exact .inl (by omega)
    have hil : i < listed.size := by rw [inv.size, hsz]; omega
    exact absurd hr (tail_waits hs hc (by omega) inv _ i rfl hi (getD_in hil h) N (Nat.le_refl _))

theorem any_of_facts_last {a0 : Act} {w1 : World} {N : Nat} (F : Nat → Value → World → Prop) (R : World → World → Prop)
    (hN : l.length = N + 1) (hs : Region.sinkB .any l.toArray N = true) (hap : apartB l = true) (hb : backB l.toArray = true)
    (hkeep : ∀ i v w w', R w1 w → F i v w → R w w' → F i v w') (htrans : ∀ u v w, R u v → R v w → R u w)
    (hstep : ∀ i o, i < N → l[i]? = some o → ∀ (x : Nat → Value) (w : World), R w1 w → (∀ j, Region.waitsFor .any l.toArray i j = true → F j (x j) w) →
      wpOp P l.toArray Q i (fun a' w' => ∃ v, a' = (putAll x l 0 a0).put o.dst v ∧ F i v w' ∧ R w w') (putAll x l 0 a0) w)
    (hlast : ∀ o, l[N]? = some o → ∀ (x : Nat → Value) (w : World), R w1 w → (∀ i, i < N → F i (x i) w) → wpOp P l.toArray Q N (fun a' w' => Q .normal a' w') (putAll x l 0 a0) w) :
    ∀ (fuel : Nat) (listed : Array Bool) (x : Nat → Value) (w : World), HeadInv .any l.toArray N listed → listed.toList.count false = fuel → R w1 w → (∀ j, j < N → listed.getD j false = true → F j (x j) w) →
      wpAny P .any l.toArray Q fuel listed (putAll x l 0 a0) w := by
  intro fuel
  have hsz : l.toArray.size = N + 1 := by simpa using hN
  have hNl : ∀ listed : Array Bool, HeadInv .any l.toArray N listed → listed.getD N false = false ∧ N < listed.size := fun listed inv => ⟨getD_both (inv.tail N (Nat.le_refl _) (by omega)), by rw [inv.size, hsz]; omega⟩
  have hno : ∀ listed : Array Bool, HeadInv .any l.toArray N listed → Region.ready .any l.toArray listed ≠ [] := fun listed inv h => by
    have h1 := ready_nil inv.size hb h N (by omega)
    rw [(hNl listed inv).1] at h1
    cases h1
  have hcount : ∀ listed : Array Bool, HeadInv .any l.toArray N listed → 0 < listed.toList.count false := fun listed inv => by
    obtain ⟨h1, h2⟩ := hNl listed inv
    refine List.count_pos_iff.2 ?_
    have e : listed[N] = false := by simpa [h2] using h1
    rw [← e]
    exact Array.getElem_mem_toList h2
  induction fuel with
  | zero =>
    intro listed x w inv hc hR hF
    have := hcount listed inv
    omega
  | succ fuel ih =>
    intro listed x w inv hc hR hF
    refine ⟨fun h => absurd h (hno listed inv), fun i hi => ?_⟩
    obtain ⟨hun, o, ho, hall⟩ := mem_ready.1 hi
    have hil : i < listed.size := by rw [inv.size]; exact (Array.getElem?_eq_some_iff.1 ho).1
    have ho' : l[i]? = some o := by simpa using ho
    have hiN : i < N ∨ i = N := by have := inv.size; omega
    rcases hiN with hiN | rfl
    · refine wpOp_mono ?_ (hstep i o hiN ho' x w hR (fun j hj => ?_))
      · rintro a' w' ⟨v, rfl, hFv, hRw⟩
        have e := putAll_set x v l 0 i o a0 hap ho'
        rw [e]
        refine ih _ _ _ (inv.set hi hiN) ?_ (htrans _ _ _ hR hRw) (fun j hjN hj => ?_)
        · have e1 : listed[i] = false := by simpa [hil] using hun
          rw [Array.toList_setIfInBounds, List.count_set (by simpa using hil)]
          have hc2 : Array.count false listed = fuel + 1 := by simpa using hc
          simp [e1]
          omega
        · by_cases hji : j = 0 + i
          · simp only [hji, if_true]
            rw [show 0 + i = i by omega]
            exact hFv
          · simp only [hji, if_false]
            refine hkeep j _ w w' hR (hF j hjN ?_) hRw
            rw [getD_set_ne false (by omega)] at hj
            exact hj
      · obtain ⟨oj, hoj, e, he, hbi, hon⟩ := Region.waitsFor_spec hj
        obtain rfl : oj = o := Option.some.inj (hoj.symm.trans ho)
        have hle : e.on < i := by
          have h1 := List.all_eq_true.1 hb i (List.mem_range.2 (by omega))
          rw [ho] at h1
          have h2 := Array.all_eq_true'.1 h1 e he
          rw [hbi] at h2
          simpa using h2
        have := hall e he hbi
        rw [hon] at this hle
        exact hF j (by omega) this
    · have hd := last_waits hs hN inv hi
      refine wpOp_mono ?_ (hlast o ho' x w hR (fun j hj => hF j hj (hd j hj)))
      intro a' w' hq
      have hall' : ∀ j, j < i + 1 → (listed.setIfInBounds i true).getD j false = true := fun j hj => by
        by_cases hji : i = j
        · subst hji; simp [hil]
        · rw [getD_set_ne false hji]; exact hd j (by omega)
      have hr0 : Region.ready .any l.toArray (listed.setIfInBounds i true) = [] := by
        apply List.eq_nil_iff_forall_not_mem.2
        intro j hj
        obtain ⟨hun', o', hoj', _⟩ := mem_ready.1 hj
        have hjl : j < l.toArray.size := (Array.getElem?_eq_some_iff.1 hoj').1
        have h1 := hall' j (by omega)
        rw [getD_both hun'] at h1
        cases h1
      cases fuel with
      | zero => exact ⟨hr0, hq⟩
      | succ f => exact ⟨fun _ => hq, fun j hj => by rw [hr0] at hj; cases hj⟩

/-- THE LAW with a last operation that waits for all the others. -/
theorem wp_region_steps_last {id : Nat} {a0 : Act} {w0 : World} (N : Nat) (F : Nat → Value → World → Prop) (R : World → World → Prop) (hm : P.follows .mixedOrders = true)
    (hN : l.length = N + 1) (hs : Region.sinkB .any l.toArray N = true) (hap : apartB l = true) (hb : backB l.toArray = true)
    (hrefl : R w0.drew w0.drew) (hkeep : ∀ i v w w', R w0.drew w → F i v w → R w w' → F i v w') (htrans : ∀ u v w, R u v → R v w → R u w)
    (hstep : ∀ i o, i < N → l[i]? = some o → ∀ (x : Nat → Value) (w : World), R w0.drew w → (∀ j, Region.waitsFor .any l.toArray i j = true → F j (x j) w) →
      Step P l Q i (fun a' w' => ∃ v, a' = (putAll x l 0 a0).put o.dst v ∧ F i v w' ∧ R w w') (putAll x l 0 a0) w)
    (hlast : ∀ o, l[N]? = some o → ∀ (x : Nat → Value) (w : World), R w0.drew w → (∀ i, i < N → F i (x i) w) → Step P l Q N (fun a' w' => Q .normal a' w') (putAll x l 0 a0) w) :
    (Code.region id l.toArray true).wp P Q a0 w0 := by
  refine wp_region_any hm ?_
  have hx : putAll (fun j => match l[j]? with | some o => slotOf a0 o | none => undef) l 0 a0 = a0 :=
    putAll_self a0 l 0 _ (fun j o ho => by simp only [Nat.zero_add, ho])
  have hT : ∀ t, N ≤ t → t < l.toArray.size → (Array.replicate l.length false).getD t true = false := by
    intro t h1 h2
    have h3 : t < l.length := by simpa using h2
    simp [h3]
  have h := any_of_facts_last (P := P) (Q := Q) (a0 := a0) (w1 := w0.drew) (N := N) F R hN hs hap hb hkeep htrans (fun i o hi ho x w hR hF => (hstep i o hi ho x w hR hF).out) (fun o ho x w hR hF => (hlast o ho x w hR hF).out)
    l.length (Array.replicate l.length false) (fun j => match l[j]? with | some o => slotOf a0 o | none => undef) w0.drew
    ⟨by simp, (fun j oj hj hl => by rw [getD_replicate_false] at hl; cases hl), hT⟩ (by simp) hrefl (fun j _ hj => by rw [getD_replicate_false] at hj; cases hj)
  rw [hx] at h
  simpa using h
end
end Go.Proofs.YtiknfifiglooeaaDoor
