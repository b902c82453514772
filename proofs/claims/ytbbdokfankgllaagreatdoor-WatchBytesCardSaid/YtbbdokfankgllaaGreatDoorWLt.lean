/- The order of watches; a list in order, and one watch more. No conditions beyond those in each statement. -/
import Derived.Test.YtbbdokfankgllaaGreatDoorWHead
import Derived.Sort.QuietIn
namespace Go.Proofs.YtbbdokfankgllaaGreatDoor
open Go.RowKit Go.Maps
set_option linter.unusedVariables false
set_option linter.unusedSimpArgs false
set_option maxRecDepth 100000

/-- What order says, as an order. -/
def LtW (a b : Wa) : Prop := a.ses < b.ses ∨ (a.ses = b.ses ∧ (a.path.data.toList < b.path.data.toList ∨ (a.path = b.path ∧ ((a.kids = false ∧ b.kids = true) ∨ (a.kids = b.kids ∧ a.once = false ∧ b.once = true)))))
theorem cmpZ_lt {a b : Int} : (cmpZ a b < 0 ↔ a < b) ∧ (cmpZ a b = 0 ↔ a = b) := by
  unfold cmpZ; constructor <;> split <;> (try split) <;> omega
theorem baq {a b : ByteArray} (h : a.data.toList = b.data.toList) : a = b := by rw [← bs_of a, ← bs_of b, h]
theorem cmpT_lt {a b : ByteArray} : (cmpT a b < 0 ↔ a.data.toList < b.data.toList) ∧ (cmpT a b = 0 ↔ a = b) := by
  unfold cmpT
  rw [Lib.toList_data, Lib.toList_data, bytesLess_eq]
  by_cases h1 : a.data.toList < b.data.toList
  · rw [if_pos (by simpa using h1)]
    exact ⟨by simp [h1], ⟨fun e => by omega, fun e => by rw [e] at h1; exact absurd h1 (List.lt_irrefl _)⟩⟩
  · rw [if_neg (by simpa using h1)]
    by_cases h2 : a.data.toList = b.data.toList
    · rw [if_pos (by simpa using h2)]
      exact ⟨by simp [h1], ⟨fun _ => baq h2, fun _ => rfl⟩⟩
    · rw [if_neg (by simpa using h2)]
      exact ⟨by simp [h1], ⟨fun e => by omega, fun e => absurd (by rw [e]) h2⟩⟩
theorem cmpB_lt {a b : Bool} : (cmpB a b < 0 ↔ a = false ∧ b = true) ∧ (cmpB a b = 0 ↔ a = b) := by cases a <;> cases b <;> decide
theorem orderF_lt {a b : Wa} : orderF a b < 0 ↔ LtW a b := by
  unfold orderF LtW
  have h1 := @cmpZ_lt a.ses b.ses
  have h2 := @cmpT_lt a.path b.path
  have h3 := @cmpB_lt a.kids b.kids
  have h4 := @cmpB_lt a.once b.once
  simp only [orF]
  rw [← h1.1, ← h1.2, ← h2.1, ← h2.2, ← h3.1, ← h3.2, ← h4.1]
  generalize cmpZ a.ses b.ses = x1
  generalize cmpT a.path b.path = x2
  generalize cmpB a.kids b.kids = x3
  generalize cmpB a.once b.once = x4
  by_cases e1 : x1 = 0 <;> by_cases e2 : x2 = 0 <;> by_cases e3 : x3 = 0 <;> by_cases e4 : x4 = 0 <;> simp [e1, e2, e3, e4] <;> omega
theorem LtW.trans {a b c : Wa} (h : LtW a b) (k : LtW b c) : LtW a c := by
  unfold LtW at h k ⊢
  rcases h with h | ⟨h1, h⟩
  · rcases k with k | ⟨k1, _⟩
    · exact .inl (by omega)
    · exact .inl (by omega)
  · rcases k with k | ⟨k1, k⟩
    · exact .inl (by omega)
    · refine .inr ⟨h1.trans k1, ?_⟩
      rcases h with h | ⟨h2, h⟩
      · rcases k with k | ⟨k2, _⟩
        · exact .inl (List.lt_trans h k)
        · exact .inl (k2 ▸ h)
      · rcases k with k | ⟨k2, k⟩
        · exact .inl (h2 ▸ k)
        · refine .inr ⟨h2.trans k2, ?_⟩
          clear h1 k1 h2 k2
          revert h k
          generalize a.kids = p1
          generalize b.kids = p2
          generalize c.kids = p3
          generalize a.once = q1
          generalize b.once = q2
          generalize c.once = q3
          revert p1 p2 p3 q1 q2 q3
          decide
theorem LtW.irrefl {a : Wa} (h : LtW a a) : False := by
  unfold LtW at h
  rcases h with h | ⟨_, h | ⟨_, h | ⟨_, h⟩⟩⟩
  · omega
  · exact List.lt_irrefl _ h
  · simp_all
  · simp_all
structure WaOk (x : Wa) : Prop where
  ses : 0 ≤ x.ses ∧ x.ses ≤ 281474976710655
  path : x.path.size ≤ 60
/-- Watches in order. -/
structure WsOk (L : List Wa) : Prop where
  up : L.Pairwise LtW
  ok : ∀ x ∈ L, WaOk x
theorem WsOk.nil : WsOk [] := ⟨List.Pairwise.nil, fun x h => (by cases h)⟩
theorem WsOk.mono {L : List Wa} (h : WsOk L) {x : Wa} : Mono L x := by
  intro i j a b hij hi hj hl
  rcases Nat.lt_or_ge i j with hlt | hge
  · obtain ⟨hi1, hi2⟩ := List.getElem?_eq_some_iff.1 hi
    obtain ⟨hj1, hj2⟩ := List.getElem?_eq_some_iff.1 hj
    have := List.pairwise_iff_getElem.1 h.up i j hi1 hj1 hlt
    rw [hi2, hj2] at this
    exact orderF_lt.2 (this.trans (orderF_lt.1 hl))
  · have : i = j := by omega
    subst this
    rw [hi] at hj
    injection hj with hj
    rw [hj]; exact hl
theorem lst_tri : ∀ a b : List UInt8, a < b ∨ a = b ∨ b < a
  | [], [] => .inr (.inl rfl)
  | [], y :: b => .inl (List.nil_lt_cons y b)
  | x :: a, [] => .inr (.inr (List.nil_lt_cons x a))
  | x :: a, y :: b => by
    rw [List.cons_lt_cons_iff, List.cons_lt_cons_iff]
    rcases lst_tri a b with h | h | h
    all_goals
      by_cases h1 : x < y
      · exact .inl (.inl h1)
      by_cases h2 : y < x
      · exact .inr (.inr (.inl h2))
      have h3 : x = y := UInt8.le_antisymm (UInt8.not_lt.1 h2) (UInt8.not_lt.1 h1)
      subst h3
      simp [h]
theorem LtW.tri (a b : Wa) : LtW a b ∨ a = b ∨ LtW b a := by
  unfold LtW
  by_cases h1 : a.ses < b.ses
  · exact .inl (.inl h1)
  by_cases h2 : b.ses < a.ses
  · exact .inr (.inr (.inl h2))
  have h3 : a.ses = b.ses := by omega
  rcases lst_tri a.path.data.toList b.path.data.toList with h | h | h
  · exact .inl (.inr ⟨h3, .inl h⟩)
  · have h4 := baq h
    obtain ⟨a1', ap, ak, ao⟩ := a
    obtain ⟨b1', bp, bk, bo⟩ := b
    simp only at h3 h4
    subst h3 h4
    cases ak <;> cases ao <;> cases bk <;> cases bo <;> simp
  · exact .inr (.inr (.inr ⟨h3.symm, .inl h⟩))
theorem orderF_eq {a b : Wa} (h : orderF a b = 0) : a = b := by
  rcases LtW.tri a b with h1 | h1 | h1
  · have := orderF_lt.2 h1; omega
  · exact h1
  · exfalso
    have hs := orderF_lt.2 h1
    unfold orderF at h hs
    simp only [orF] at h hs
    have a1 := @cmpZ_lt a.ses b.ses
    have a2 := @cmpT_lt a.path b.path
    have a3 := @cmpB_lt a.kids b.kids
    have a4 := @cmpB_lt a.once b.once
    by_cases e1 : cmpZ a.ses b.ses = 0
    · by_cases e2 : cmpT a.path b.path = 0
      · by_cases e3 : cmpB a.kids b.kids = 0
        · by_cases e4 : cmpB a.once b.once = 0
          · have : a = b := by
              obtain ⟨a1', ap, ak, ao⟩ := a
              obtain ⟨b1', bp, bk, bo⟩ := b
              simp only at *
              rw [a1.2.1 e1, a2.2.1 e2, a3.2.1 e3, a4.2.1 e4]
            rw [this] at h1
            exact h1.irrefl
          · simp [e1, e2, e3, e4] at h
        · simp [e1, e2, e3] at h
      · simp [e1, e2] at h
    · simp [e1] at h
theorem orderF_self (a : Wa) : orderF a a = 0 := by
  have a1 := (@cmpZ_lt a.ses a.ses).2.2 rfl
  have a2 := (@cmpT_lt a.path a.path).2.2 rfl
  have a3 := (@cmpB_lt a.kids a.kids).2.2 rfl
  have a4 := (@cmpB_lt a.once a.once).2.2 rfl
  unfold orderF
  simp [orF, a1, a2, a3, a4]
section
variable {L : List Wa} {x : Wa}
theorem pos_found (h : WsOk L) : Found L x (posF L x) := found_pos L x h.mono
theorem isB_mem (h : WsOk L) : isB L x (posF L x) = true ↔ x ∈ L := by
  have hf := pos_found (x := x) h
  unfold isB
  constructor
  · intro he
    cases hq : L[posF L x]? with
    | none => rw [hq] at he; cases he
    | some y =>
      rw [hq] at he
      have : orderF y x = 0 := by simpa using he
      rw [← orderF_eq this]
      exact List.mem_of_getElem? hq
  · intro hm
    obtain ⟨j, hj⟩ := List.mem_iff_getElem?.1 hm
    have h1 : posF L x ≤ j := by
      rcases Nat.lt_or_ge j (posF L x) with hlt | hge
      · have := orderF_lt.1 (hf.low j x hlt hj)
        exact absurd this LtW.irrefl
      · exact hge
    have h2 : j ≤ posF L x := by
      rcases Nat.lt_or_ge (posF L x) j with hlt | hge
      · obtain ⟨hj1, hj2⟩ := List.getElem?_eq_some_iff.1 hj
        have hpl : posF L x < L.length := by omega
        have := List.pairwise_iff_getElem.1 h.up (posF L x) j hpl hj1 hlt
        rw [hj2] at this
        exact absurd (orderF_lt.2 this) (hf.high _ _ (Nat.le_refl _) (List.getElem?_eq_getElem hpl))
      · exact hge
    have : j = posF L x := by omega
    rw [← this, hj]
    simp [orderF_self]
theorem isB_not (h : WsOk L) (hn : ¬ x ∈ L) : isB L x (posF L x) = false := by
  cases e : isB L x (posF L x) with
  | false => rfl
  | true => exact absurd ((isB_mem h).1 e) hn
theorem WsOk.ins (h : WsOk L) (hx : WaOk x) (hn : ¬ x ∈ L) : WsOk (L.take (posF L x) ++ x :: L.drop (posF L x)) := by
  have hf := pos_found (x := x) h
  have hlow : ∀ y ∈ L.take (posF L x), LtW y x := fun y hy => by
    obtain ⟨j, hj⟩ := List.mem_iff_getElem?.1 hy
    rw [List.getElem?_take] at hj
    split at hj
    · exact orderF_lt.1 (hf.low j y (by assumption) hj)
    · cases hj
  have hhigh : ∀ y ∈ L.drop (posF L x), LtW x y := fun y hy => by
    obtain ⟨j, hj⟩ := List.mem_iff_getElem?.1 hy
    rw [List.getElem?_drop] at hj
    have h1 := hf.high _ y (Nat.le_add_right _ _) hj
    rcases LtW.tri x y with h2 | h2 | h2
    · exact h2
    · exact absurd (h2 ▸ List.mem_of_getElem? hj) hn
    · exact absurd (orderF_lt.2 h2) h1
  refine ⟨List.pairwise_append.2 ⟨h.up.sublist (List.take_sublist _ _), List.pairwise_cons.2 ⟨hhigh, h.up.sublist (List.drop_sublist _ _)⟩, fun a ha b hb => ?_⟩, fun y hy => ?_⟩
  · rcases List.mem_cons.1 hb with rfl | hb
    · exact hlow a ha
    · exact (hlow a ha).trans (hhigh b hb)
  · rcases List.mem_append.1 hy with hy | hy
    · exact h.ok y (List.mem_of_mem_take hy)
    · rcases List.mem_cons.1 hy with rfl | hy
      · exact hx
      · exact h.ok y (List.mem_of_mem_drop hy)
theorem WsOk.filt (h : WsOk L) (p : Wa → Bool) : WsOk (L.filter p) := ⟨h.up.sublist List.filter_sublist, fun y hy => h.ok y (List.mem_filter.1 hy).1⟩
theorem addL_cases (h : WsOk L) : (addL L x = L) ∨ (badS x = false ∧ checkE x.path.data.toList = 0 ∧ ¬ x ∈ L ∧ L.length < 40 ∧ addL L x = L.take (posF L x) ++ x :: L.drop (posF L x)) := by
  cases hb : badS x with
  | true => left; unfold addL; rw [if_pos hb]
  | false =>
    by_cases hp : checkE x.path.data.toList = 0
    · by_cases hm : x ∈ L
      · exact .inl (add_old hb hp ((isB_mem h).2 hm)).2
      · by_cases hl : L.length < 40
        · exact .inr ⟨rfl, hp, hm, hl, (add_new hb hp (isB_not h hm) hl).2⟩
        · exact .inl (add_full hb hp (isB_not h hm) (by omega)).2
    · left
      unfold addL
      rw [if_neg (by rw [hb]; decide), if_neg hp]
theorem WsOk.add (h : WsOk L) (hl : L.length ≤ 40) (hx : checkE x.path.data.toList = 0 → badS x = false → WaOk x) : WsOk (addL L x) ∧ (addL L x).length ≤ 40 := by
  rcases addL_cases (x := x) h with e | ⟨hb, hp, hm, hl2, e⟩
  · rw [e]; exact ⟨h, hl⟩
  · rw [e]
    refine ⟨h.ins (hx hp hb) hm, ?_⟩
    rw [List.length_append, List.length_take, List.length_cons, List.length_drop]
    omega
end
def EvB (w : World) (b : Nat) (x : Ev) : Prop := w.heap[b]? = some (.cells #[.int .i64 x.ses, .int .i64 x.no, .string x.path, .int .i64 x.what, .int .i64 x.when] 54 (0, 0))
theorem EvB.cells {w : World} {b : Nat} {x : Ev} (h : EvB w b x) : w.cell? ⟨b, 0, none⟩ = some (.int .i64 x.ses) ∧ w.cell? ⟨b, 1, none⟩ = some (.int .i64 x.no) ∧ w.cell? ⟨b, 2, none⟩ = some (.string x.path) ∧ w.cell? ⟨b, 3, none⟩ = some (.int .i64 x.what) ∧ w.cell? ⟨b, 4, none⟩ = some (.int .i64 x.when) := by
  unfold EvB at h
  exact ⟨by simp [World.cell?, h], by simp [World.cell?, h], by simp [World.cell?, h], by simp [World.cell?, h], by simp [World.cell?, h]⟩
theorem EvB.lt {w : World} {b : Nat} {x : Ev} (h : EvB w b x) : b < w.heap.size := (Array.getElem?_eq_some_iff.1 h).1
theorem EvB.below {w w' : World} {b : Nat} {x : Ev} (h : EvB w b x) (hb : Below w.heap.size w w') : EvB w' b x := (hb.block b h.lt).trans h
end Go.Proofs.YtbbdokfankgllaaGreatDoor
