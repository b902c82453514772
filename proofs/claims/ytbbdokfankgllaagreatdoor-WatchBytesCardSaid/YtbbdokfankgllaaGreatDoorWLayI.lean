/- What acts keep of a state that can be encoded. No conditions beyond those in each statement. -/
import Derived.Test.YtbbdokfankgllaaGreatDoorWDo
namespace Go.Proofs.YtbbdokfankgllaaGreatDoor
open Go.RowKit Go.Maps Go.Shelf
set_option linter.unusedVariables false
set_option linter.unusedSimpArgs false
set_option maxRecDepth 100000

def WaG (x : Wa) : Prop := badS x = false ∧ checkE x.path.data.toList = 0 ∧ x.ses ≤ 7
def EvG (kk : Nat) (e : Ev) : Prop := 1 ≤ e.ses ∧ e.ses ≤ 7 ∧ 1 ≤ e.no ∧ e.no ≤ (kk : Int) ∧ e.path.size ≤ 60 ∧ 0 ≤ e.what ∧ e.what ≤ 4 ∧ 0 ≤ e.when ∧ e.when ≤ 1000
def NG (kk : Nat) (N : Int → Option Int) : Prop := ∀ z v, N z = some v → 1 ≤ z ∧ z ≤ 7 ∧ 1 ≤ v ∧ v ≤ (kk : Int)
theorem WaG.pos {x : Wa} (h : WaG x) : 1 ≤ x.ses := by
  have := h.1
  unfold badS at this
  rw [Bool.or_eq_false_iff] at this
  have := of_decide_eq_false this.1
  omega
theorem WaG.size {x : Wa} (h : WaG x) : x.path.size ≤ 60 := by
  have := checkE_len h.2.1
  rw [Lib.size_eq]; exact this
theorem EvG.mono {k m : Nat} {e : Ev} (h : EvG k e) (hk : k ≤ m) : EvG m e := by unfold EvG at h ⊢; omega
theorem NG.mono {k m : Nat} {N : Int → Option Int} (h : NG k N) (hk : k ≤ m) : NG m N := fun z v hz => by have := h z v hz; omega
theorem fireS_lay (s up : ByteArray) (what t : Int) (hw : 1 ≤ what ∧ what ≤ 3) (ht : 0 ≤ t ∧ t ≤ 1000) : ∀ (Ws : List Wa) (st : List Ev × (Int → Option Int)) (kk : Nat), (∀ x ∈ Ws, WaG x) → kk + Ws.length ≤ 1000000 → (∀ e ∈ st.1, EvG kk e) → NG kk st.2 → (∀ e ∈ (fireS s up what t Ws st).1, EvG (kk + Ws.length) e) ∧ NG (kk + Ws.length) (fireS s up what t Ws st).2
  | [], st, kk, _, _, h1, h2 => ⟨h1, h2⟩
  | x :: l, st, kk, hg, hb, h1, h2 => by
    have hs : fireS s up what t (x :: l) st = fireS s up what t l (fireT s up what t st x) := rfl
    rw [hs]
    rw [List.length_cons] at hb ⊢
    have hx := hg x (by simp)
    have hn : nextN st.2 x.ses = (st.2 x.ses).getD 0 + 1 ∧ 0 ≤ (st.2 x.ses).getD 0 ∧ (st.2 x.ses).getD 0 ≤ (kk : Int) := by
      have h3 : 0 ≤ (st.2 x.ses).getD 0 ∧ (st.2 x.ses).getD 0 ≤ (kk : Int) := by
        cases e : st.2 x.ses with
        | none => simp
        | some v => have := h2 _ _ e; simp only [Option.getD_some]; omega
      refine ⟨?_, h3⟩
      unfold nextN
      exact IntWalk.i64_in _ (by omega)
    have hT : (∀ e ∈ (fireT s up what t st x).1, EvG (kk + 1) e) ∧ NG (kk + 1) (fireT s up what t st x).2 := by
      unfold fireT
      split
      · rename_i htr
        refine ⟨fun e he => ?_, fun z v hz => ?_⟩
        · rcases List.mem_append.1 he with he | he
          · exact (h1 e he).mono (by omega)
          · rw [List.mem_singleton.1 he]
            have h5 := hx.pos
            have h6 := hx.size
            have h7 := hx.2.2
            have h8 : 0 ≤ trigK s up what x ∧ trigK s up what x ≤ 4 := by
              unfold trigK
              split
              · omega
              · split <;> omega
            unfold EvG
            simp only
            rw [hn.1]
            omega
        · simp only [updN] at hz
          split at hz
          · injection hz with hz
            have h5 := hx.pos
            have h7 := hx.2.2
            rename_i he
            rw [he, ← hz, hn.1]
            omega
          · have := h2 z v hz; omega
      · exact ⟨fun e he => (h1 e he).mono (by omega), h2.mono (by omega)⟩
    obtain ⟨r1, r2⟩ := fireS_lay s up what t hw ht l _ (kk + 1) (fun y hy => hg y (by simp [hy])) (by omega) hT.1 hT.2
    rw [show kk + (l.length + 1) = kk + 1 + l.length by omega]
    exact ⟨r1, r2⟩
structure LayI (S : Sb) (kk : Nat) : Prop where
  wg : ∀ x ∈ S.ws, WaG x
  eg : ∀ e ∈ S.es, EvG kk e
  ng : NG kk S.n
theorem layI0 : LayI sb0 0 := ⟨fun e h => (by cases h), fun e h => (by cases h), fun z v h => (by cases h)⟩
theorem LayI.mono {S : Sb} {k m : Nat} (h : LayI S k) (hk : k ≤ m) : LayI S m := ⟨h.wg, fun e he => (h.eg e he).mono hk, h.ng.mono hk⟩
theorem LayI.step {S : Sb} {kk k2 : Nat} (h : LayI S kk) (hs : SbOk S k2) (hk : kk ≤ 100000) (q : Ac) (t : Int) (ht : 0 ≤ t ∧ t ≤ 1000) (hp : q.path.length ≤ 12) : LayI (doS q t S) (kk + 40) := by
  unfold doS
  split
  · refine ⟨fun x hx => ?_, fun e he => (h.eg e he).mono (by omega), h.ng.mono (by omega)⟩
    rcases addL_cases (x := waO q) hs.ws with e | ⟨hb, hc, _, _, e⟩
    · simp only [e] at hx; exact h.wg x hx
    · simp only [e] at hx
      rcases List.mem_append.1 hx with hx | hx
      · exact h.wg x (List.mem_of_mem_take hx)
      · rcases List.mem_cons.1 hx with hx | hx
        · rw [hx]
          exact ⟨hb, hc, by unfold waO sesO; simp only; omega⟩
        · exact h.wg x (List.mem_of_mem_drop hx)
  · split
    · rename_i hk3
      have hl := hs.l40
      obtain ⟨r1, r2⟩ := fireS_lay (mkP q.path) (upM q.path) (kdo q - 1) t (by omega) ht S.ws (S.es, S.n) kk h.wg (by omega) h.eg h.ng
      exact ⟨fun x hx => h.wg x (List.mem_filter.1 hx).1, fun e he => (r1 e he).mono (by omega), r2.mono (by omega)⟩
    · split
      · exact ⟨h.wg, fun e he => (h.eg e (List.mem_filter.1 he).1).mono (by omega), h.ng.mono (by omega)⟩
      · refine ⟨fun x hx => h.wg x (List.mem_filter.1 hx).1, fun e he => (h.eg e (List.mem_filter.1 he).1).mono (by omega), fun z v hz => ?_⟩
        simp only [updN] at hz
        split at hz
        · cases hz
        · have := h.ng z v hz; omega
/-- Rising numbers within bounds are few. -/
theorem few_up (hi : Int) : ∀ (zs : List Int) (lo : Int), zs.Pairwise (· < ·) → (∀ z ∈ zs, lo ≤ z ∧ z ≤ hi) → (zs.length : Int) ≤ hi - lo + 1 ∨ zs = []
  | [], lo, _, _ => .inr rfl
  | a :: l, lo, h, hb => by
    rw [List.pairwise_cons] at h
    have h1 := hb a (by simp)
    rcases few_up hi l (a + 1) h.2 (fun z hz => ⟨by have := h.1 z hz; omega, (hb z (by simp [hz])).2⟩) with e | e
    · left; rw [List.length_cons]; push_cast; omega
    · left; rw [e]; simp; omega
end Go.Proofs.YtbbdokfankgllaaGreatDoor
