/- What is below what, among paths made of words. No conditions beyond those in each statement. -/
import Derived.Test.YtbbdokfankgllaaDoorPathArgs
namespace Go.Proofs.YtbbdokfankgllaaDoor
set_option linter.unusedVariables false

/-- Is the text t below the path u (u not the root). -/
def below2 (s u : List UInt8) : Bool := u.isPrefixOf s && Lib.hasPrefix (s.drop u.length) [47]
/-- What Below answers. -/
def belowL (s u : List UInt8) : Bool := if u = [47] then !(decide (s = [47])) && checkL s else below2 s u
/-- A word: no slash in it, not empty. -/
def Wd (v : List UInt8) : Prop := (47 : UInt8) ∉ v ∧ v ≠ []
theorem head_of_body (ws : List (List UInt8)) : bodyL ws = [] ∨ ∃ r, bodyL ws = 47 :: r := by
  cases ws with
  | nil => exact .inl rfl
  | cons a l => exact .inr ⟨a ++ bodyL l, by simp [bodyL]⟩
theorem word_cut : ∀ (v w x y : List UInt8), (47 : UInt8) ∉ v → (47 : UInt8) ∉ w → (y = [] ∨ ∃ r, y = 47 :: r) → (v ++ 47 :: x) <+: (w ++ y) → v = w ∧ (47 :: x) <+: y
  | [], [], x, y, _, _, _, h => ⟨rfl, by simpa using h⟩
  | [], c :: w, x, y, _, hw, _, h => by
    simp at h hw
    exact absurd h.1 hw.1
  | c :: v, [], x, y, hv, _, hy, h => by
    rcases hy with rfl | ⟨r, rfl⟩
    · simp at h
    · simp at h hv
      exact absurd h.1.symm hv.1
  | c :: v, d :: w, x, y, hv, hw, hy, h => by
    simp at h hv hw
    obtain ⟨rfl, h⟩ := h
    have := word_cut v w x y hv.2 hw.2 hy h
    exact ⟨by rw [this.1], this.2⟩
theorem body_prefix : ∀ (vs ws : List (List UInt8)), (∀ v ∈ vs, Wd v) → (∀ w ∈ ws, Wd w) → ((bodyL vs ++ [47]) <+: bodyL ws ↔ (vs <+: ws ∧ vs.length < ws.length))
  | [], [], _, _ => by simp [bodyL]
  | [], w :: ws, _, _ => by simp [bodyL]
  | v :: vs, [], _, _ => by simp [bodyL]
  | v :: vs, w :: ws, hv, hw => by
    have ih := body_prefix vs ws (fun x hx => hv x (by simp [hx])) (fun x hx => hw x (by simp [hx]))
    have e1 : bodyL (v :: vs) ++ [47] = 47 :: (v ++ (bodyL vs ++ [47])) := by simp [bodyL]
    have e2 : bodyL (w :: ws) = 47 :: (w ++ bodyL ws) := by simp [bodyL]
    rw [e1, e2]
    constructor
    · intro h
      have h' : (v ++ (bodyL vs ++ [47])) <+: (w ++ bodyL ws) := by simpa using h
      obtain ⟨x, hx⟩ : ∃ x, bodyL vs ++ [47] = 47 :: x := by
        rcases head_of_body vs with e | ⟨r, e⟩ <;> rw [e] <;> simp
      rw [hx] at h' ih
      have := word_cut v w x (bodyL ws) (hv v (by simp)).1 (hw w (by simp)).1 (head_of_body ws) h'
      obtain ⟨rfl, h2⟩ := this
      have := ih.1 h2
      exact ⟨by simpa using this.1, by simpa using this.2⟩
    · rintro ⟨h1, h2⟩
      have h1' : v = w ∧ vs <+: ws := by simpa using h1
      obtain ⟨rfl, h3⟩ := h1'
      have := ih.2 ⟨h3, by simpa using h2⟩
      simpa using this
/-- Is vs a part of ws, from the head on, and not all of it. -/
def inB (ws vs : List (List UInt8)) : Bool := vs.isPrefixOf ws && decide (vs.length < ws.length)
theorem inB_iff (ws vs : List (List UInt8)) : inB ws vs = true ↔ (vs <+: ws ∧ vs.length < ws.length) := by
  unfold inB; simp
theorem below2_iff (s u : List UInt8) : below2 s u = true ↔ (u ++ [47]) <+: s := by
  unfold below2
  rw [prefix_slash]
  constructor
  · intro h
    simp at h
    obtain ⟨⟨r, rfl⟩, h2⟩ := h
    rw [List.getElem?_append_right (Nat.le_refl _), Nat.sub_self] at h2
    cases r with
    | nil => simp at h2
    | cons a r => simp at h2; subst h2; simp
  · rintro ⟨r, rfl⟩
    simp
theorem made_root {ws : List (List UInt8)} (h : ∀ w ∈ ws, Wd w) : madeL ws = [47] ↔ ws = [] := by
  constructor
  · intro e
    cases ws with
    | nil => rfl
    | cons a l =>
      unfold madeL at e
      rw [if_neg (by simp)] at e
      simp [bodyL] at e
      exact absurd e.1 (h a (by simp)).2
  · rintro rfl; rfl
theorem pieces_app (p l : List UInt8) (h : (47 : UInt8) ∉ p) : pieces (p ++ 47 :: l) = p :: pieces l := by
  have := pieces_at (p ++ 47 :: l) p.length (by simpa using h) (by simp)
  simpa using this
theorem pieces_body : ∀ (v : List UInt8) (vs : List (List UInt8)), (47 : UInt8) ∉ v → (∀ w ∈ vs, Wd w) → pieces (v ++ bodyL vs) = v :: vs
  | v, [], hv, _ => by simp [bodyL]; exact pieces_none v hv
  | v, w :: ws, hv, h => by
    have e : v ++ bodyL (w :: ws) = v ++ 47 :: (w ++ bodyL ws) := by simp [bodyL]
    rw [e, pieces_app v _ hv, pieces_body w ws (h w (by simp)).1 (fun x hx => h x (by simp [hx]))]
theorem check_made {ws : List (List UInt8)} (h : ∀ w ∈ ws, Wd w) (hp : ∀ w ∈ ws, partL w = true) (hl : (madeL ws).length ≤ 60) : checkL (madeL ws) = true := by
  cases ws with
  | nil => decide
  | cons a l =>
    have e : madeL (a :: l) = 47 :: (a ++ bodyL l) := by unfold madeL; rw [if_neg (by simp)]; simp [bodyL]
    rw [e] at hl ⊢
    rw [checkL_on (by simp; intro e; exact absurd e (h a (by simp)).2) hl, pieces_body a l (h a (by simp)).1 (fun x hx => h x (by simp [hx]))]
    simp; exact ⟨hp a (by simp), fun w hw => hp w (by simp [hw])⟩
theorem below_made {ws vs : List (List UInt8)} (hw : ∀ w ∈ ws, Wd w) (hv : ∀ w ∈ vs, Wd w) (hp : ∀ w ∈ ws, partL w = true) (hl : (madeL ws).length ≤ 60) : belowL (madeL ws) (madeL vs) = inB ws vs := by
  unfold belowL
  by_cases h0 : vs = []
  · subst h0
    rw [if_pos (show madeL [] = [47] from rfl), check_made hw hp hl]
    rw [Bool.eq_iff_iff, inB_iff]
    simp [made_root hw]
    cases ws <;> simp
  · have hne : madeL vs ≠ [47] := fun e => h0 ((made_root hv).1 e)
    rw [if_neg hne, Bool.eq_iff_iff, inB_iff, below2_iff]
    have e : madeL vs = bodyL vs := by unfold madeL; rw [if_neg h0]
    rw [e, ← body_prefix vs ws hv hw]
    by_cases h1 : ws = []
    · subst h1
      have : madeL [] = [47] := rfl
      rw [this]
      cases vs with
      | nil => exact absurd rfl h0
      | cons a l =>
        have := (hv a (by simp)).2
        simp [bodyL]
    · have e2 : madeL ws = bodyL ws := by unfold madeL; rw [if_neg h1]
      rw [e2]
theorem inB_trans {a b c : List (List UInt8)} (h1 : inB a b = true) (h2 : inB b c = true) : inB a c = true := by
  rw [inB_iff] at *
  exact ⟨h2.1.trans h1.1, by omega⟩
theorem inB_anti {a b : List (List UInt8)} (h1 : inB a b = true) : inB b a = false := by
  cases h : inB b a
  · rfl
  · rw [inB_iff] at *; omega
theorem inB_irr (a : List (List UInt8)) : inB a a = false := by
  cases h : inB a a
  · rfl
  · rw [inB_iff] at h; omega
theorem wsOf_wd (ns : List Int) : ∀ w ∈ wsOf ns, Wd w := by
  intro w hw
  unfold wsOf at hw
  obtain ⟨n, _, rfl⟩ := List.mem_map.1 hw
  exact ⟨word_noslash _, fun e => by have := (word_len (n % 18446744073709551616)).1; unfold wordU at e; rw [e] at this; simp at this⟩
theorem wsOf_part (ns : List Int) : ∀ w ∈ wsOf ns, partL w = true := by
  intro w hw
  unfold wsOf at hw
  obtain ⟨n, _, rfl⟩ := List.mem_map.1 hw
  exact partL_word _
theorem below_wsOf (a b : List Int) (ha : a.length ≤ 12) : belowL (madeL (wsOf a)) (madeL (wsOf b)) = inB (wsOf a) (wsOf b) :=
  below_made (wsOf_wd a) (wsOf_wd b) (wsOf_part a) (by have := made_len a; omega)
theorem root_wsOf (a : List Int) : madeL (wsOf a) = [47] ↔ a = [] := by
  rw [made_root (wsOf_wd a)]; simp [wsOf]
end Go.Proofs.YtbbdokfankgllaaDoor
