/- The numbers of a session's events, without memory. No conditions beyond those in each statement. -/
import Derived.Test.YtbbdokfankgllaaDoorWDo
namespace Go.Proofs.YtbbdokfankgllaaDoor
open Go.RowKit Go.Maps Go.Shelf
set_option linter.unusedVariables false
set_option linter.unusedSimpArgs false
set_option maxRecDepth 100000

/-- Events of one session, numbered on from n, all of one time. -/
def ConsE (z t n : Int) (B : List Ev) : Prop := ∀ (j : Nat) (e : Ev), B[j]? = some e → e.ses = z ∧ e.no = n + 1 + j ∧ e.when = t
theorem ConsE.nil {z t n : Int} : ConsE z t n [] := fun j e h => by simp at h
theorem ConsE.cons {z t n : Int} {B : List Ev} {e : Ev} (h : ConsE z t (n + 1) B) (h1 : e.ses = z) (h2 : e.no = n + 1) (h3 : e.when = t) : ConsE z t n (e :: B) := fun j x hx => by
  cases j with
  | zero => simp at hx; rw [← hx]; exact ⟨h1, by simp [h2], h3⟩
  | succ j =>
    rw [List.getElem?_cons_succ] at hx
    obtain ⟨k1, k2, k3⟩ := h j x hx
    exact ⟨k1, by rw [k2]; push_cast; omega, k3⟩
theorem fireS_num (s up : ByteArray) (what t z : Int) : ∀ (Ws : List Wa) (st : List Ev × (Int → Option Int)), 0 ≤ (st.2 z).getD 0 → (st.2 z).getD 0 + Ws.length ≤ 1000000 → ∃ B, ConsE z t ((st.2 z).getD 0) B ∧ B.length ≤ Ws.length ∧ ((fireS s up what t Ws st).1.filter fun e => e.ses == z) = (st.1.filter fun e => e.ses == z) ++ B ∧ ((fireS s up what t Ws st).2 z).getD 0 = (st.2 z).getD 0 + B.length
  | [], st, h0, hb => ⟨[], ConsE.nil, Nat.le_refl _, by simp [fireS], by simp [fireS]⟩
  | x :: l, st, h0, hb => by
    have hs : fireS s up what t (x :: l) st = fireS s up what t l (fireT s up what t st x) := rfl
    rw [hs]
    rw [List.length_cons] at hb ⊢
    push_cast at hb
    by_cases hz : x.ses = z
    · by_cases ht : trigB s up what x = true
      · have hn : nextN st.2 x.ses = (st.2 z).getD 0 + 1 := by
          unfold nextN
          rw [hz]
          exact IntWalk.i64_in _ (by omega)
        have hT : fireT s up what t st x = (st.1 ++ [⟨x.ses, (st.2 z).getD 0 + 1, x.path, trigK s up what x, t⟩], updN st.2 x.ses (some ((st.2 z).getD 0 + 1))) := by unfold fireT; rw [if_pos ht, hn]
        have h2 : (fireT s up what t st x).2 z = some ((st.2 z).getD 0 + 1) := by rw [hT, hz]; exact updN_same _ _ _
        obtain ⟨B, b1, b2, b3, b4⟩ := fireS_num s up what t z l (fireT s up what t st x) (by rw [h2]; simp only [Option.getD_some]; omega) (by rw [h2]; simp only [Option.getD_some]; omega)
        rw [h2] at b1 b4
        simp only [Option.getD_some] at b1 b4
        refine ⟨(⟨x.ses, (st.2 z).getD 0 + 1, x.path, trigK s up what x, t⟩ : Ev) :: B, b1.cons hz rfl rfl, by rw [List.length_cons]; omega, ?_, ?_⟩
        · rw [b3, hT]
          simp [List.filter_append, hz]
        · rw [b4, List.length_cons]; push_cast; omega
      · have hT : fireT s up what t st x = st := by unfold fireT; rw [if_neg ht]
        rw [hT]
        obtain ⟨B, b1, b2, b3, b4⟩ := fireS_num s up what t z l st h0 (by omega)
        exact ⟨B, b1, by omega, b3, b4⟩
    · obtain ⟨e1, e2⟩ := fireT_other (s := s) (up := up) (what := what) (when := t) (st := st) (x := x) hz
      obtain ⟨B, b1, b2, b3, b4⟩ := fireS_num s up what t z l (fireT s up what t st x) (by rw [e2]; exact h0) (by rw [e2]; omega)
      rw [e2] at b1 b4
      rw [e1] at b3
      exact ⟨B, b1, by omega, b3, b4⟩
/-- The numbers of a state. -/
structure NumI (S : Sb) (kk : Nat) : Prop where
  le : ∀ e ∈ S.es, e.no ≤ (S.n e.ses).getD 0
  bd : ∀ z, 0 ≤ (S.n z).getD 0 ∧ (S.n z).getD 0 ≤ (kk : Int)
theorem numI0 : NumI sb0 0 := ⟨fun e h => (by cases h), fun z => (by simp [sb0])⟩
/-- What an act leaves of a session's events, and what it adds. -/
def NumS (S S' : Sb) (t z : Int) : Prop := ∃ A B, (S'.es.filter fun e => e.ses == z) = A ++ B ∧ (∀ e ∈ A, e.no ≤ (S.n z).getD 0) ∧ ConsE z t ((S.n z).getD 0) B ∧ (S'.n z).getD 0 = (S.n z).getD 0 + B.length ∧ B.length ≤ 40
theorem NumI.part {S : Sb} {kk : Nat} (h : NumI S kk) (L : List Ev) (hL : ∀ e ∈ L, e ∈ S.es) (z : Int) : ∀ e ∈ L.filter (fun e => e.ses == z), e.no ≤ (S.n z).getD 0 := fun e he => by
  obtain ⟨h1, h2⟩ := List.mem_filter.1 he
  have h3 : e.ses = z := by simpa using h2
  have := h.le e (hL e h1)
  rw [h3] at this; exact this
theorem num_step {S : Sb} {kk : Nat} (h : NumI S kk) (hl : S.ws.length ≤ 40) (hk : kk ≤ 100000) (q : Ac) (t : Int) (h6 : kdo q ≠ 6) (z : Int) : NumS S (doS q t S) t z := by
  unfold doS
  split
  · exact ⟨_, [], (List.append_nil _).symm, h.part S.es (fun e he => he) z, ConsE.nil, by simp, by simp⟩
  · split
    · obtain ⟨B, b1, b2, b3, b4⟩ := fireS_num (mkP q.path) (upM q.path) (kdo q - 1) t z S.ws (S.es, S.n) (h.bd z).1 (by have := (h.bd z).2; simp only; omega)
      exact ⟨_, B, b3, h.part S.es (fun e he => he) z, b1, b4, by omega⟩
    · split
      · exact ⟨_, [], (List.append_nil _).symm, h.part _ (fun e he => (List.mem_filter.1 he).1) z, ConsE.nil, by simp, by simp⟩
      · exfalso
        obtain ⟨u, hu, hk7⟩ := pick7 q.k
        have : kdo q = (u : Int) := hk7
        omega
theorem NumI.step {S S' : Sb} {kk : Nat} {t : Int} (h : NumI S kk) (hs : ∀ z, NumS S S' t z) : NumI S' (kk + 40) := by
  refine ⟨fun e he => ?_, fun z => ?_⟩
  · obtain ⟨A, B, h1, h2, h3, h4, h5⟩ := hs e.ses
    have hm : e ∈ A ++ B := by rw [← h1]; exact List.mem_filter.2 ⟨he, by simp⟩
    rw [h4]
    rcases List.mem_append.1 hm with hm | hm
    · have := h2 e hm; omega
    · obtain ⟨j, hj⟩ := List.mem_iff_getElem?.1 hm
      have h6 := (h3 j e hj).2.1
      have h7 := (List.getElem?_eq_some_iff.1 hj).1
      omega
  · obtain ⟨A, B, h1, h2, h3, h4, h5⟩ := hs z
    have := h.bd z
    rw [h4]
    push_cast
    omega
/-- An event at its place among them. -/
theorem nums_at {A B : List Ev} {n z t : Int} (hA : ∀ e ∈ A, e.no ≤ n) (hB : ConsE z t n B) {i : Nat} {e : Ev} (h : (A ++ B)[i]? = some e) : (i < A.length ∧ e.no ≤ n) ∨ (A.length ≤ i ∧ e.ses = z ∧ e.no = n + 1 + ((i - A.length : Nat) : Int) ∧ e.when = t) := by
  by_cases hi : i < A.length
  · rw [List.getElem?_append_left hi] at h
    exact .inl ⟨hi, hA e (List.mem_of_getElem? h)⟩
  · rw [List.getElem?_append_right (by omega)] at h
    exact .inr ⟨by omega, hB _ e h⟩
/-- A row of eight numbers in a block. -/
def Row8 (w : World) (b : Nat) (f : Nat → Int) : Prop := w.heap[b]? = some (.cells #[.int .i64 (f 0), .int .i64 (f 1), .int .i64 (f 2), .int .i64 (f 3), .int .i64 (f 4), .int .i64 (f 5), .int .i64 (f 6), .int .i64 (f 7)] 3 (0, 0))
def upd8 (f : Nat → Int) (s : Nat) (v : Int) : Nat → Int := fun x => if x = s then v else f x
section
variable {w w' : World} {b : Nat} {f : Nat → Int} {s : Nat} {v : Int}
theorem Row8.lt (h : Row8 w b f) : b < w.heap.size := (Array.getElem?_eq_some_iff.1 h).1
theorem Row8.below (h : Row8 w b f) (hb : Below w.heap.size w w') : Row8 w' b f := (hb.block b h.lt).trans h
theorem Row8.kept {O O' : Nat → Prop} (h : Row8 w b f) (ho : Oth w O b) (hf : FrO w w' O O') : Row8 w' b f ∧ Oth w' O' b := ⟨(ho.keep hf).1.trans h, (ho.keep hf).2⟩
theorem Row8.cell (h : Row8 w b f) (hs : s < 8) : w.cell? ⟨b, s, none⟩ = some (.int .i64 (f s)) := by
  unfold Row8 at h
  match s, hs with
  | 0, _ => simp [World.cell?, h]
  | 1, _ => simp [World.cell?, h]
  | 2, _ => simp [World.cell?, h]
  | 3, _ => simp [World.cell?, h]
  | 4, _ => simp [World.cell?, h]
  | 5, _ => simp [World.cell?, h]
  | 6, _ => simp [World.cell?, h]
  | 7, _ => simp [World.cell?, h]
theorem Row8.frz (h : Row8 w b f) (i : Nat) : w.frozen? ⟨b, i, none⟩ = false := by unfold Row8 at h; simp [World.frozen?, h]
theorem Row8.set (h : Row8 w b f) (hs : s < 8) : Row8 (w.setCell ⟨b, s, none⟩ (.int .i64 v)) b (upd8 f s v) := by
  have h2 := bset (i := s) (u := .int .i64 v) h
  unfold Row8
  rw [h2]
  match s, hs with
  | 0, _ => simp [upd8]
  | 1, _ => simp [upd8]
  | 2, _ => simp [upd8]
  | 3, _ => simp [upd8]
  | 4, _ => simp [upd8]
  | 5, _ => simp [upd8]
  | 6, _ => simp [upd8]
  | 7, _ => simp [upd8]
theorem Row8.other {c i : Nat} {u : Value} (h : Row8 w b f) (hne : b ≠ c) : Row8 (w.setCell ⟨c, i, none⟩ u) b f := (Below.heap_setCell w ⟨c, i, none⟩ u b hne).trans h
end
end Go.Proofs.YtbbdokfankgllaaDoor
