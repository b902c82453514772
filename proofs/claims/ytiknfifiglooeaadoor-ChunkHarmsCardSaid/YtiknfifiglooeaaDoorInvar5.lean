/- A region that draws its order, with a tail that waits for all the rest: the facts' law for the operations ahead, the tail's operations one after another. -/
import Derived.Test.YtiknfifiglooeaaDoorInvar3
import Derived.StillTail
namespace Go.Proofs.YtiknfifiglooeaaDoor
open Go Go.RowKit
set_option linter.unusedVariables false
set_option maxRecDepth 100000

section
variable {P : Program} {Q : Exit → Act → World → Prop} {l : List Oper}

theorem head_waits {N : Nat} {listed : Array Bool} (hs : Region.sinkB .any l.toArray N = true) (hc : Region.chainB .any l.toArray N = true) (hN : N < l.length) (inv : HeadInv .any l.toArray N listed) (t : Nat) (ht : N ≤ t) (hr : t ∈ Region.ready .any l.toArray listed) : ∀ i, i < N → listed.getD i false = true := by
  intro i hi
  have hsz : N < l.toArray.size := by simpa using hN
  cases h : listed.getD i false with
  | true => rfl
  | false =>
    have hil : i < listed.size := by rw [inv.size]; omega
    exact absurd hr (tail_waits hs hc hsz inv _ i rfl hi (getD_in hil h) t ht)

/-- The tail's operations, one after another. -/
def tailK (P : Program) (l : List Oper) (Q : Exit → Act → World → Prop) : Nat → Nat → Act → World → Prop
  | 0, _ => fun a w => Q .normal a w
  | m + 1, t => fun a w => Step P l Q t (tailK P l Q m (t + 1)) a w

theorem tail_run {N : Nat} (hc : Region.chainB .any l.toArray N = true) (hb : backB l.toArray = true) :
    ∀ (m t : Nat), N ≤ t → l.length = t + m → ∀ (fuel : Nat) (listed : Array Bool) (a : Act) (w : World), listed.size = l.length → (∀ j, j < t → listed.getD j false = true) → (∀ j, t ≤ j → j < l.length → listed.getD j true = false) → m ≤ fuel →
      tailK P l Q m t a w → wpAny P .any l.toArray Q fuel listed a w := by
  intro m
  induction m with
  | zero =>
    intro t hNt hlen fuel listed a w hsz hd hu hf hK
    have hr0 : Region.ready .any l.toArray listed = [] := by
      apply List.eq_nil_iff_forall_not_mem.2
      intro j hj
      obtain ⟨hun', o', hoj', _⟩ := mem_ready.1 hj
      have hjl : j < l.toArray.size := (Array.getElem?_eq_some_iff.1 hoj').1
      have hjl' : j < l.length := by simpa using hjl
      have h1 := hd j (by omega)
      rw [getD_both hun'] at h1
      cases h1
    cases fuel with
    | zero => exact ⟨hr0, hK⟩
    | succ f => exact ⟨fun _ => hK, fun j hj => by rw [hr0] at hj; cases hj⟩
  | succ m ih =>
    intro t hNt hlen fuel listed a w hsz hd hu hf hK
    obtain ⟨f, rfl⟩ : ∃ f, fuel = f + 1 := ⟨fuel - 1, by omega⟩
    have hsz' : listed.size = l.toArray.size := by simpa using hsz
    have hne : Region.ready .any l.toArray listed ≠ [] := fun h => by
      have h1 := ready_nil hsz' hb h t (by simp; omega)
      rw [getD_both (hu t (Nat.le_refl _) (by omega))] at h1
      cases h1
    refine ⟨fun h => absurd h hne, fun i hi => ?_⟩
    obtain ⟨hun, o, ho, hall⟩ := mem_ready.1 hi
    have hil : i < l.length := by simpa using (Array.getElem?_eq_some_iff.1 ho).1
    have hti : t ≤ i := by
      rcases Nat.lt_or_ge i t with h | h
      · have h1 := hd i h
        rw [getD_both hun] at h1
        cases h1
      · exact h
    have hit : i = t := by
      rcases Nat.lt_or_ge t i with h | h
      · have h1 := List.all_eq_true.1 hc i (List.mem_range.2 (by simpa using hil))
        simp only [Bool.or_eq_true, decide_eq_true_eq] at h1
        rcases h1 with h1 | h1
        · omega
        · obtain ⟨o', ho', e, he, hbi, hon⟩ := Region.waitsFor_spec h1
          have : o' = o := Option.some.inj (ho'.symm.trans ho)
          subst this
          have h2 := hall e he hbi
          rw [hon, getD_both (hu (i - 1) (by omega) (by omega))] at h2
          cases h2
      · omega
    subst hit
    refine wpOp_mono ?_ hK.out
    intro a' w' hK'
    refine ih (i + 1) (by omega) (by omega) f _ a' w' (by simpa using hsz) (fun j hj => ?_) (fun j hj hjl => ?_) (by omega) hK'
    · by_cases hji : i = j
      · subst hji; simp [hsz, hil]
      · rw [getD_set_ne false hji]; exact hd j (by omega)
    · rw [getD_set_ne true (by omega)]; exact hu j (by omega) hjl

theorem any_of_facts_tail {a0 : Act} {w1 : World} {N m : Nat} (F : Nat → Value → World → Prop) (R : World → World → Prop)
    (hN : l.length = N + (m + 1)) (hs : Region.sinkB .any l.toArray N = true) (hc : Region.chainB .any l.toArray N = true) (hap : apartB l = true) (hb : backB l.toArray = true)
    (hkeep : ∀ i v w w', R w1 w → F i v w → R w w' → F i v w') (htrans : ∀ u v w, R u v → R v w → R u w)
    (hstep : ∀ i o, i < N → l[i]? = some o → ∀ (x : Nat → Value) (w : World), R w1 w → (∀ j, Region.waitsFor .any l.toArray i j = true → F j (x j) w) → (∀ j o, N ≤ j → l[j]? = some o → x j = slotOf a0 o) →
      wpOp P l.toArray Q i (fun a' w' => ∃ v, a' = (putAll x l 0 a0).put o.dst v ∧ F i v w' ∧ R w w') (putAll x l 0 a0) w)
    (hlast : ∀ (x : Nat → Value) (w : World), R w1 w → (∀ i, i < N → F i (x i) w) → tailK P l Q (m + 1) N (putAll x l 0 a0) w) :
    ∀ (fuel : Nat) (listed : Array Bool) (x : Nat → Value) (w : World), HeadInv .any l.toArray N listed → listed.toList.count false = fuel → R w1 w → (∀ j, j < N → listed.getD j false = true → F j (x j) w) → (∀ j o, N ≤ j → l[j]? = some o → x j = slotOf a0 o) →
      wpAny P .any l.toArray Q fuel listed (putAll x l 0 a0) w := by
  intro fuel
  have hsz : l.toArray.size = N + (m + 1) := by simpa using hN
  have hNl : ∀ listed : Array Bool, HeadInv .any l.toArray N listed → listed.getD N false = false ∧ N < listed.size := fun listed inv => ⟨getD_both (inv.tail N (Nat.le_refl _) (by omega)), by rw [inv.size, hsz]; omega⟩
  have hno : ∀ listed : Array Bool, HeadInv .any l.toArray N listed → Region.ready .any l.toArray listed ≠ [] := fun listed inv h => by
    have h1 := ready_nil inv.size hb h N (by omega)
    rw [(hNl listed inv).1] at h1
    cases h1
  have htl : ∀ listed : Array Bool, HeadInv .any l.toArray N listed → m + 1 ≤ listed.toList.count false := fun listed inv => by
    have e : listed.toList = listed.toList.take N ++ List.replicate (m + 1) false := by
      apply List.ext_getElem?
      intro j
      have hls : listed.toList.length = N + (m + 1) := by simpa [hsz] using inv.size
      rcases Nat.lt_or_ge j N with h | h
      · rw [List.getElem?_append_left (by simp [hls]; omega), List.getElem?_take_of_lt h]
      · rcases Nat.lt_or_ge j (N + (m + 1)) with h2 | h2
        · rw [List.getElem?_append_right (by simp [hls]; omega), List.getElem?_replicate]
          have h3 := inv.tail j h (by omega)
          have h4 : j < listed.size := by rw [inv.size, hsz]; omega
          have h5 : (listed.toList.take N).length = N := by simp [hls]
          have h7 : ¬ (j < listed.size → listed[j]! = true) ∨ True := .inr trivial
          have h6 : listed[j]'h4 = false := by simpa [h4] using h3
          rw [h5, if_pos (by omega)]
          simp [h4, h6]
        · rw [List.getElem?_eq_none (by omega), List.getElem?_eq_none (by simp [hls]; omega)]
    rw [e, List.count_append, List.count_replicate_self]
    omega
  induction fuel with
  | zero =>
    intro listed x w inv hcn hR hF hX
    have := htl listed inv
    omega
  | succ fuel ih =>
    intro listed x w inv hcn hR hF hX
    by_cases hrN : ∃ t, N ≤ t ∧ t ∈ Region.ready .any l.toArray listed
    · obtain ⟨t, htN, htr⟩ := hrN
      have hd := head_waits hs hc (by omega) inv t htN htr
      refine tail_run hc hb (m + 1) N (Nat.le_refl _) hN (fuel + 1) listed _ w (by rw [inv.size]; simp) hd (fun j hj hjl => inv.tail j hj (by simpa using hjl)) (by rw [← hcn]; exact htl listed inv) ?_
      exact hlast x w hR (fun j hj => hF j hj (hd j hj))
    refine ⟨fun h => absurd h (hno listed inv), fun i hi => ?_⟩
    obtain ⟨hun, o, ho, hall⟩ := mem_ready.1 hi
    have hil : i < listed.size := by rw [inv.size]; exact (Array.getElem?_eq_some_iff.1 ho).1
    have ho' : l[i]? = some o := by simpa using ho
    have hiN : i < N := by
      rcases Nat.lt_or_ge i N with h | h
      · exact h
      · exact absurd ⟨i, h, hi⟩ hrN
    refine wpOp_mono ?_ (hstep i o hiN ho' x w hR (fun j hj => ?_) hX)
    · rintro a' w' ⟨v, rfl, hFv, hRw⟩
      have e := putAll_set x v l 0 i o a0 hap ho'
      rw [e]
      refine ih _ _ _ (inv.set hi hiN) ?_ (htrans _ _ _ hR hRw) (fun j hjN hj => ?_) (fun j oj hj hoj => by rw [if_neg (by omega)]; exact hX j oj hj hoj)
      · have e1 : listed[i] = false := by simpa [hil] using hun
        rw [Array.toList_setIfInBounds, List.count_set (by simpa using hil)]
        have hc2 : Array.count false listed = fuel + 1 := by simpa using hcn
        simp [e1]
        omega
      · by_cases hji : j = 0 + i
        · simp only [hji, if_true]
          rw [show 0 + i = i by omega]
          exact hFv
        · simp only [hji, if_false]
          refine hkeep j _ w w' hR (hF j hjN ?_) hRw
          rw [getD_set_ne false (by omega)] at hj
          exact hj
    · obtain ⟨oj, hoj, e, he, hbi, hon⟩ := Region.waitsFor_spec hj
      obtain rfl : oj = o := Option.some.inj (hoj.symm.trans ho)
      have hle : e.on < i := by
        have h1 := List.all_eq_true.1 hb i (List.mem_range.2 (by omega))
        rw [ho] at h1
        have h2 := Array.all_eq_true'.1 h1 e he
        rw [hbi] at h2
        simpa using h2
      have := hall e he hbi
      rw [hon] at this hle
      exact hF j (by omega) this

/-- THE LAW with a tail that waits for all the rest. -/
theorem wp_region_steps_tail {id : Nat} {a0 : Act} {w0 : World} (N m : Nat) (F : Nat → Value → World → Prop) (R : World → World → Prop) (hm : P.follows .mixedOrders = true)
    (hN : l.length = N + (m + 1)) (hs : Region.sinkB .any l.toArray N = true) (hc : Region.chainB .any l.toArray N = true) (hap : apartB l = true) (hb : backB l.toArray = true)
    (hrefl : R w0.drew w0.drew) (hkeep : ∀ i v w w', R w0.drew w → F i v w → R w w' → F i v w') (htrans : ∀ u v w, R u v → R v w → R u w)
    (hstep : ∀ i o, i < N → l[i]? = some o → ∀ (x : Nat → Value) (w : World), R w0.drew w → (∀ j, Region.waitsFor .any l.toArray i j = true → F j (x j) w) → (∀ j o, N ≤ j → l[j]? = some o → x j = slotOf a0 o) →
      Step P l Q i (fun a' w' => ∃ v, a' = (putAll x l 0 a0).put o.dst v ∧ F i v w' ∧ R w w') (putAll x l 0 a0) w)
    (hlast : ∀ (x : Nat → Value) (w : World), R w0.drew w → (∀ i, i < N → F i (x i) w) → tailK P l Q (m + 1) N (putAll x l 0 a0) w) :
    (Code.region id l.toArray true).wp P Q a0 w0 := by
  refine wp_region_any hm ?_
  have hx : putAll (fun j => match l[j]? with | some o => slotOf a0 o | none => undef) l 0 a0 = a0 :=
    putAll_self a0 l 0 _ (fun j o ho => by simp only [Nat.zero_add, ho])
  have hT : ∀ t, N ≤ t → t < l.toArray.size → (Array.replicate l.length false).getD t true = false := by
    intro t h1 h2
    have h3 : t < l.length := by simpa using h2
    simp [h3]
  have h := any_of_facts_tail (P := P) (Q := Q) (a0 := a0) (w1 := w0.drew) (N := N) (m := m) F R hN hs hc hap hb hkeep htrans (fun i o hi ho x w hR hF hX => (hstep i o hi ho x w hR hF hX).out) hlast
    l.length (Array.replicate l.length false) (fun j => match l[j]? with | some o => slotOf a0 o | none => undef) w0.drew
    ⟨by simp, (fun j oj hj hl => by rw [getD_replicate_false] at hl; cases hl), hT⟩ (by simp) hrefl (fun j _ hj => by rw [getD_replicate_false] at hj; cases hj) (fun j o _ ho => by simp only [ho])
  rw [hx] at h
  simpa using h
end
end Go.Proofs.YtiknfifiglooeaaDoor
