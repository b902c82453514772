/- One session's share of a state. No conditions beyond those in each statement. -/
import Derived.Test.YtbbdokfankgllaaDoorWDo
namespace Go.Proofs.YtbbdokfankgllaaDoor
open Go.RowKit Go.Maps Go.Shelf
set_option linter.unusedVariables false
set_option linter.unusedSimpArgs false
set_option maxRecDepth 100000

theorem sorted_ext {L M : List Wa} (hL : L.Pairwise LtW) (hM : M.Pairwise LtW) (h : ∀ y, y ∈ L ↔ y ∈ M) : L = M := by
  have n1 : L.Nodup := hL.imp (fun {a b} h e => by rw [e] at h; exact h.irrefl)
  have n2 : M.Nodup := hM.imp (fun {a b} h e => by rw [e] at h; exact h.irrefl)
  have hp : L.Perm M := (List.perm_ext_iff_of_nodup n1 n2).2 (fun y => h y)
  exact List.Perm.eq_of_pairwise (le := LtW) (fun a b _ _ h1 h2 => absurd (h1.trans h2) (fun h => h.irrefl)) hL hM hp
theorem mem_addL {L : List Wa} {x y : Wa} (h : WsOk L) (hl : L.length < 40) : y ∈ addL L x ↔ y ∈ L ∨ (y = x ∧ badS x = false ∧ checkE x.path.data.toList = 0) := by
  cases hb : badS x with
  | true =>
    have e : addL L x = L := by unfold addL; rw [if_pos hb]
    rw [e]; simp
  | false =>
    by_cases hp : checkE x.path.data.toList = 0
    · by_cases hm : x ∈ L
      · rw [(add_old hb hp ((isB_mem h).2 hm)).2]
        constructor
        · exact .inl
        · rintro (e | ⟨e, _⟩)
          · exact e
          · rw [e]; exact hm
      · rw [(add_new hb hp (isB_not h hm) hl).2, List.mem_append, List.mem_cons]
        have hd : y ∈ L ↔ y ∈ L.take (posF L x) ∨ y ∈ L.drop (posF L x) := by
          conv => lhs; rw [← List.take_append_drop (posF L x) L]
          exact List.mem_append
        rw [hd]
        constructor
        · rintro (e | e | e)
          · exact .inl (.inl e)
          · exact .inr ⟨e, rfl, hp⟩
          · exact .inl (.inr e)
        · rintro ((e | e) | ⟨e, _⟩)
          · exact .inl e
          · exact .inr (.inr e)
          · exact .inr (.inl e)
    · have e : addL L x = L := by unfold addL; rw [if_neg (by rw [hb]; decide), if_neg hp]
      rw [e]
      constructor
      · exact .inl
      · rintro (e | ⟨_, _, e⟩)
        · exact e
        · exact absurd e hp
def pW (z : Int) (L : List Wa) : List Wa := L.filter fun x => x.ses == z
def pE (z : Int) (L : List Ev) : List Ev := L.filter fun x => x.ses == z
/-- The same to one session. -/
structure PrjS (z : Int) (A B : Sb) : Prop where
  ws : pW z A.ws = pW z B.ws
  es : pE z A.es = pE z B.es
  n : A.n z = B.n z
theorem PrjS.refl (z : Int) (A : Sb) : PrjS z A A := ⟨rfl, rfl, rfl⟩
theorem fire_prj (s up : ByteArray) (what t z : Int) : ∀ (Ws : List Wa) (st st' : List Ev × (Int → Option Int)), pE z st.1 = pE z st'.1 → st.2 z = st'.2 z → pE z (fireS s up what t Ws st).1 = pE z (fireS s up what t (pW z Ws) st').1 ∧ (fireS s up what t Ws st).2 z = (fireS s up what t (pW z Ws) st').2 z
  | [], st, st', h1, h2 => ⟨h1, h2⟩
  | x :: l, st, st', h1, h2 => by
    have hs : fireS s up what t (x :: l) st = fireS s up what t l (fireT s up what t st x) := rfl
    rw [hs]
    by_cases hz : x.ses = z
    · have hw : pW z (x :: l) = x :: pW z l := by unfold pW; rw [List.filter_cons_of_pos (by simp [hz])]
      rw [hw]
      have hs2 : fireS s up what t (x :: pW z l) st' = fireS s up what t (pW z l) (fireT s up what t st' x) := rfl
      rw [hs2]
      refine fire_prj s up what t z l _ _ ?_ ?_
      · unfold fireT
        split
        · have hn : nextN st.2 x.ses = nextN st'.2 x.ses := by unfold nextN; rw [hz, h2]
          unfold pE at h1 ⊢
          rw [List.filter_append, List.filter_append, h1, hn]
        · exact h1
      · unfold fireT
        split
        · have hn : nextN st.2 x.ses = nextN st'.2 x.ses := by unfold nextN; rw [hz, h2]
          simp only [hz, updN_same]
          rw [hz] at hn
          rw [hn]
        · exact h2
    · have hw : pW z (x :: l) = pW z l := by unfold pW; rw [List.filter_cons_of_neg (by simp [hz])]
      rw [hw]
      obtain ⟨e1, e2⟩ := fireT_other (s := s) (up := up) (what := what) (when := t) (st := st) (x := x) hz
      exact fire_prj s up what t z l _ _ (by unfold pE; rw [e1]; exact h1) (e2.trans h2)
theorem filter_swap {α : Type} (p q : α → Bool) (L : List α) : (L.filter p).filter q = (L.filter q).filter p := by
  rw [List.filter_filter, List.filter_filter]
  congr 1
  funext x
  exact Bool.and_comm _ _
theorem prj_both {z : Int} {A B : Sb} {k1 k2 : Nat} (h : PrjS z A B) (hA : SbOk A k1) (hB : SbOk B k2) (la : A.ws.length < 40) (lb : B.ws.length < 40) (q : Ac) (t : Int) (hp : q.path.length ≤ 12) : PrjS z (doS q t A) (doS q t B) := by
  unfold doS
  split
  · refine ⟨?_, h.es, h.n⟩
    have s1 := (hA.ws.add hA.l40 (x := waO q) (fun _ _ => waO_ok q hp)).1
    have s2 := (hB.ws.add hB.l40 (x := waO q) (fun _ _ => waO_ok q hp)).1
    refine sorted_ext (s1.filt _).up (s2.filt _).up (fun y => ?_)
    unfold pW
    simp only
    rw [List.mem_filter, List.mem_filter, mem_addL hA.ws la, mem_addL hB.ws lb]
    have hy : y.ses = z → (y ∈ A.ws ↔ y ∈ B.ws) := fun hz => by
      have h1 : y ∈ pW z A.ws ↔ y ∈ pW z B.ws := by rw [h.ws]
      unfold pW at h1
      rw [List.mem_filter, List.mem_filter] at h1
      simpa [hz] using h1
    constructor
    · rintro ⟨h1, h2⟩
      rw [hy (by simpa using h2)] at h1
      exact ⟨h1, h2⟩
    · rintro ⟨h1, h2⟩
      rw [← hy (by simpa using h2)] at h1
      exact ⟨h1, h2⟩
  · split
    · have f1 := fire_prj (mkP q.path) (upM q.path) (kdo q - 1) t z A.ws (A.es, A.n) (B.es, B.n) h.es h.n
      have f2 := fire_prj (mkP q.path) (upM q.path) (kdo q - 1) t z B.ws (B.es, B.n) (B.es, B.n) rfl rfl
      rw [h.ws] at f1
      refine ⟨?_, f1.1.trans f2.1.symm, f1.2.trans f2.2.symm⟩
      have := h.ws
      unfold pW at this ⊢
      unfold fireW
      simp only
      rw [filter_swap, filter_swap _ _ B.ws, this]
    · split
      · refine ⟨h.ws, ?_, h.n⟩
        have := h.es
        unfold pE at this ⊢
        simp only
        rw [filter_swap, filter_swap _ _ B.es, this]
      · refine ⟨?_, ?_, ?_⟩
        · have := h.ws
          unfold pW at this ⊢
          simp only
          rw [filter_swap, filter_swap _ _ B.ws, this]
        · have := h.es
          unfold pE at this ⊢
          simp only
          rw [filter_swap, filter_swap _ _ B.es, this]
        · have := h.n
          simp only [updN]
          split
          · rfl
          · exact this
theorem filter_skip {α : Type} (p q : α → Bool) (L : List α) (h : ∀ x, q x = true → p x = true) : (L.filter p).filter q = L.filter q := by
  rw [List.filter_filter]
  congr 1
  funext x
  cases hq : q x with
  | false => rfl
  | true => rw [h x hq]; rfl
theorem prj_left {z : Int} {A B : Sb} {k1 : Nat} (h : PrjS z A B) (hA : SbOk A k1) (q : Ac) (t : Int) (hz : sesO q ≠ z) (hk : ¬ (kdo q = 2 ∨ kdo q = 3 ∨ kdo q = 4)) : PrjS z (doS q t A) B := by
  unfold doS
  split
  · refine ⟨?_, h.es, h.n⟩
    rw [← h.ws]
    rcases addL_cases (x := waO q) hA.ws with e | ⟨_, _, _, _, e⟩
    · simp only [e]
    · simp only [e]
      unfold pW
      rw [List.filter_append, List.filter_cons_of_neg (by simp [waO, hz]), ← List.filter_append, List.take_append_drop]
  · split
    · refine ⟨h.ws, ?_, h.n⟩
      rw [← h.es]
      unfold pE
      simp only
      exact filter_skip _ _ _ (fun x hx => by
        have h1 : x.ses = z := by simpa using hx
        unfold notB
        have : (x.ses == sesO q) = false := by rw [h1]; simpa using fun e => hz e.symm
        rw [this]; rfl)
    · refine ⟨?_, ?_, ?_⟩
      · rw [← h.ws]
        unfold pW
        simp only
        exact filter_skip _ _ _ (fun x hx => by
          have h1 : x.ses = z := by simpa using hx
          have : (x.ses == sesO q) = false := by rw [h1]; simpa using fun e => hz e.symm
          rw [this]; rfl)
      · rw [← h.es]
        unfold pE
        simp only
        exact filter_skip _ _ _ (fun x hx => by
          have h1 : x.ses = z := by simpa using hx
          have : (x.ses == sesO q) = false := by rw [h1]; simpa using fun e => hz e.symm
          rw [this]; rfl)
      · rw [← h.n]
        exact updN_other (fun e => hz e.symm)
theorem doS_len {A : Sb} {j : Nat} (h : A.ws.length ≤ j) (q : Ac) (t : Int) : (doS q t A).ws.length ≤ j + 1 := by
  unfold doS
  split
  · simp only
    unfold addL
    split
    · omega
    · split
      · split
        · omega
        · split
          · omega
          · rw [List.length_append, List.length_take, List.length_cons, List.length_drop]; omega
      · omega
  · split
    · simp only
      have := fireW_len (s := mkP q.path) (up := upM q.path) (what := kdo q - 1) (Ws := A.ws)
      omega
    · split
      · simp only; omega
      · simp only
        have := List.length_filter_le (fun x : Wa => !(x.ses == sesO q)) A.ws
        omega
end Go.Proofs.YtbbdokfankgllaaDoor
