/- Clone of a table; a model's list as an encoding; a table of two models. No conditions beyond those in each statement. -/
import Derived.Test.YtckengglamkaaaaSessApt
import Derived.Test.YtckengglamkaaaaSessRead
import Derived.Test.YtckengglamkaaaaMcl
import Derived.Shelf.SlMaps.Clone
namespace Go.Proofs.Ytckengglamkaaaa
open Go.RowKit Go.Maps Go.Sort Go.Shelf
set_option linter.unusedVariables false
set_option maxRecDepth 100000

theorem mclone_any (mb k c : Nat) (T : Int → Option Ss) (w : World) (h : MapS w mb k c T) :
    Calls Try.prog 35 #[.map (some mb)] w fun e w' => e = .returned (.map (some w.heap.size)) ∧ MapS w' w.heap.size k c T ∧ Below w.heap.size w w' := by
  obtain ⟨hr, D, ho, hc, hD⟩ := h
  have C := AnyW.maps_Clone_owns Try.mclA 3 ssR mb k D w ho
  change Calls Try.prog 35 _ _ _ at C
  refine C.mono ?_
  rintro e w' ⟨rfl, h1, h2, hb⟩
  exact ⟨rfl, ⟨hr, D, h1, hc, hD⟩, hb⟩
theorem tclone_any (tb mb k c : Nat) (T : Int → Option Ss) (w : World) (h : TbW w tb mb k c T) :
    Calls Try.prog 21 #[.pointer (some ⟨tb, 0, none⟩)] w fun e w' => ∃ tb2 mb2, e = .returned (.pointer (some ⟨tb2, 0, none⟩)) ∧ TbW w' tb2 mb2 k c T ∧ Below w.heap.size w w' ∧ w.heap.size ≤ tb2 ∧ w.heap.size ≤ mb2 := by
  have HC := Lib.hid (mclone_any mb k c T w h.map)
  have hcell := h.cell
  clear h
  go_enter Try.func21, Try.ntmps21
  go_wp2_with fail
  refine HC.out.mono ?_
  rintro e w1 ⟨rfl, hm, b⟩
  have N1 := heap_alloc_new w1 (.cells #[.map (some w.heap.size)] 63)
  have bA := (Below.refl _ w1).alloc (Nat.le_refl _) (.cells #[.map (some w.heap.size)] 63)
  have HT := Lib.hid (⟨N1, hm.below bA⟩ : TbW (w1.alloc (.cells #[.map (some w.heap.size)] 63)) w1.heap.size w.heap.size k c T)
  have hs := b.size
  clear hm N1
  go_wp2_with fail
  go_ret
  exact ⟨_, _, rfl, HT.out, b.trans (bA.mono b.size), hs, Nat.le_refl _⟩
theorem rev_ind {α : Type} {P : List α → Prop} (h0 : P []) (h1 : ∀ l a, P l → P (l ++ [a])) (l : List α) : P l := by
  have h : ∀ m : List α, P m.reverse := by
    intro m
    induction m with
    | nil => exact h0
    | cons a m ih => rw [List.reverse_cons]; exact h1 _ _ ih
  have := h l.reverse
  rwa [List.reverse_reverse] at this
theorem tabS_mem : ∀ (es : List Me) (x : Int) (s : Ss), tabS es x = some s → (x, s) ∈ es := by
  refine rev_ind ?_ ?_
  · intro x s h; cases h
  · intro es e ih x s h
    rw [tabS_snoc] at h
    by_cases hx : x = e.1
    · rw [hx, updS_same] at h; injection h with h
      rw [hx, ← h]; simp
    · rw [updS_other hx] at h; exact List.mem_append_left _ (ih x s h)
theorem tabS_att : ∀ (es : List Me), (es.map (·.1)).Pairwise (· < ·) → ∀ e ∈ es, tabS es e.1 = some e.2 := by
  refine rev_ind ?_ ?_
  · intro _ e h; cases h
  · intro es d ih hp e he
    rw [List.map_append, List.pairwise_append] at hp
    rw [tabS_snoc]
    rcases List.mem_append.1 he with he | he
    · have := hp.2.2 e.1 (List.mem_map_of_mem he) d.1 (by simp)
      rw [updS_other (by omega)]; exact ih hp.1 e he
    · rw [List.mem_singleton.1 he, updS_same]
theorem RepS.tab {T : Int → Option Ss} {L : List Me} (h : RepS T L) : tabS L = T := by
  funext x
  cases hT : T x with
  | none =>
    cases hx : tabS L x with
    | none => rfl
    | some s => have := (h.mem x s).2 (tabS_mem L x s hx); rw [hT] at this; cases this
  | some s => exact tabS_att L h.asc (x, s) ((h.mem x s).1 hT)
theorem okN_in {z : Int} (h : okN z = true) : 1 ≤ z ∧ z ≤ 281474976710655 := by unfold okN at h; rw [Bool.and_eq_true] at h; simpa using h
theorem SmS.req {s : Ss} (h : SmS s) : 0 ≤ s.req ∧ s.req ≤ 281474976710655 ∧ (s.req = 0 → s.ans = ⟨#[]⟩) := by
  rcases h.2.2 with rfl | h
  · exact ⟨by decide, by decide, fun _ => rfl⟩
  · have := okN_in h
    exact ⟨by omega, by omega, fun e => by omega⟩
theorem RepS.ascS {T : Int → Option Ss} {L : List Me} (h : RepS T L) (hs : ∀ x s, T x = some s → SmS s ∧ okN x = true) : AscS L 281474976710655 := by
  have hm : ∀ e ∈ L, SmS e.2 ∧ okN e.1 = true := fun e he => hs e.1 e.2 ((h.mem e.1 e.2).2 he)
  refine ⟨h.asc, fun e he => (okN_in (hm e he).2).2, tabS_att L h.asc, tabS_mem L, fun e he => ⟨⟨(hm e he).1.req.1, (hm e he).1.req.2.1⟩, (hm e he).1.2.1⟩, by decide⟩
theorem RepS.val {T : Int → Option Ss} {L : List Me} (h : RepS T L) (hs : ∀ x s, T x = some s → SmS s ∧ okN x = true) (hl : L.length ≤ 16) : ValS L := by
  refine ⟨hl, ⟨_, h.ascS hs⟩, fun e he => ?_⟩
  have := hs e.1 e.2 ((h.mem e.1 e.2).2 he)
  have h1 := okN_in this.2
  exact ⟨by omega, h1.2, this.1.req.2.2⟩
/-- A model's bytes. -/
def modE (L : List Me) : List UInt8 := numE (L.length : Int) ++ ents L
theorem RepS.layE {T : Int → Option Ss} {L : List Me} (h : RepS T L) (hs : ∀ x s, T x = some s → SmS s ∧ okN x = true) : layE T (L.map (·.1)) = modE L := by
  have := (h.ascS hs).lay
  rw [h.tab] at this
  exact this
theorem ents_take (L : List Me) (j : Nat) (e : Me) (h : L[j]? = some e) : ents (L.take (j + 1)) = ents (L.take j) ++ entE e.1 e.2 := by
  obtain ⟨hl, he⟩ := List.getElem?_eq_some_iff.1 h
  rw [List.take_succ_eq_append_getElem hl, he, ents_app]
theorem ents_len2 : ∀ L : List Me, (ents L).length ≤ 65549 * L.length
  | [] => by simp [ents]
  | e :: L => by
    have h1 := ents_len2 L
    have h2 := entE_len e.1 e.2
    unfold ents at h1 ⊢
    rw [List.flatMap_cons, List.length_append, List.length_cons]; omega
/-- Two of one model. -/
theorem TwoS.other {w : World} {tb mb k mp cap : Nat} {a : Option Addr} {T : Int → Option Ss} {L : List Me} (ht : TbW w tb mb k L.length T) (hm : MoW w mp a cap L) (hr : RepS T L) (hf : L.length ≤ 16) (hs : ∀ x s, T x = some s → SmS s ∧ okN x = true)
    (hne : tb ≠ mp ∧ mb ≠ mp ∧ ∀ g, a = some ⟨g, 0, none⟩ → tb ≠ g ∧ mb ≠ g) : TwoS 0 w tb mb k mp cap a T L :=
  ⟨ht, hm, hr, hf, hs, hne, Nat.zero_le _, Nat.zero_le _, Nat.zero_le _, Nat.zero_le _, fun _ _ => Nat.zero_le _⟩
/-- A part of an encoding that was cut off is none. -/
theorem cut_none {l : List UInt8} {L : List Me} {N : Nat} (hL : ValS L) (hl : l = modE L) (hN : N < l.length) {es : List Me} {l' : List UInt8} (hv : ValS es) (hp : l.take N = numE (es.length : Int) ++ ents es ++ l')
    (hfull : ∀ es0 r, ValS es0 → l = numE (es0.length : Int) ++ ents es0 ++ r → (some [] : RS) = some r) : False := by
  have h := hfull es (l' ++ l.drop N) hv (by rw [← List.append_assoc, ← hp, List.take_append_drop])
  injection h with h
  have h2 : (l.drop N).length = 0 := by
    have := congrArg List.length h
    simp at this; omega
  rw [List.length_drop] at h2; omega
end Go.Proofs.Ytckengglamkaaaa
