/- The law's model of a table: a list of sessions; where one is; what is seen. No conditions beyond those in each statement. -/
import Derived.Test.YtckengglamkaaaaSessLay
import Derived.Test.YtckengglamkaaaaSessHead
import Derived.Test.YtckengglamkaaaaInvar6
namespace Go.Proofs.Ytckengglamkaaaa
open Go.RowKit Go.Maps Go.Sort
set_option linter.unusedVariables false
set_option maxRecDepth 100000

abbrev Me := Int × Ss
def meOne (e : Me) : List Value := [.int .i64 e.1, .int .i64 e.2.req, .string e.2.ans]
def meCells : List Me → List Value
  | [] => []
  | e :: l => meOne e ++ meCells l
theorem meCells_append (l m : List Me) : meCells (l ++ m) = meCells l ++ meCells m := by
  induction l with
  | nil => rfl
  | cons x l ih => show meOne x ++ meCells (l ++ m) = _; rw [ih, ← List.append_assoc]; rfl
theorem meCells_len (l : List Me) : (meCells l).length = l.length * 3 := by
  induction l with
  | nil => rfl
  | cons x l ih => show (meOne x ++ meCells l).length = _; rw [List.length_append, ih]; simp [meOne]; omega
theorem meCells_at : ∀ (l : List Me) (j i : Nat) (e : Me), l[j]? = some e → i < 3 → (meCells l)[j * 3 + i]? = (meOne e)[i]?
  | [], j, i, e, h, _ => by simp at h
  | y :: l, 0, i, e, h, hi => by
    obtain rfl : y = e := by simpa using h
    show (meOne y ++ meCells l)[0 * 3 + i]? = _
    rw [Nat.zero_mul, Nat.zero_add, List.getElem?_append_left (by simpa [meOne] using hi)]
  | y :: l, j + 1, i, e, h, hi => by
    have := meCells_at l j i e (by simpa using h) hi
    show (meOne y ++ meCells l)[(j + 1) * 3 + i]? = _
    rw [List.getElem?_append_right (by simp [meOne]; omega)]
    rw [← this]; congr 1; simp [meOne]; omega
theorem meCells_one : ∀ (l : List Me) (v : Value), v ∈ meCells l → v.oneCell' = true
  | [], v, h => by cases h
  | e :: l, v, h => by
    have h' : v ∈ meOne e ++ meCells l := h
    rcases List.mem_append.1 h' with h1 | h1
    · simp [meOne] at h1
      rcases h1 with rfl | rfl | rfl <;> rfl
    · exact meCells_one l v h1
theorem meCells_drop : ∀ (l : List Me) (j q : Nat), (meCells (l.drop j))[q]? = (meCells l)[j * 3 + q]?
  | l, 0, q => by simp
  | [], j + 1, q => by simp [meCells]
  | e :: l, j + 1, q => by
    rw [List.drop_succ_cons, meCells_drop l j q]
    show _ = (meOne e ++ meCells l)[(j + 1) * 3 + q]?
    rw [List.getElem?_append_right (by simp [meOne]; omega)]
    congr 1; simp [meOne]; omega
theorem meCells_take : ∀ (l : List Me) (j q : Nat) (u : Value), (meCells (l.take j))[q]? = some u → (meCells l)[q]? = some u
  | l, 0, q, u, h => by simp [meCells] at h
  | [], j + 1, q, u, h => by simp [meCells] at h
  | e :: l, j + 1, q, u, h => by
    rw [List.take_succ_cons] at h
    have h' : (meOne e ++ meCells (l.take j))[q]? = some u := h
    show (meOne e ++ meCells l)[q]? = some u
    by_cases hq : q < 3
    · rw [List.getElem?_append_left (by simpa [meOne] using hq)] at h' ⊢; exact h'
    · rw [List.getElem?_append_right (by simp [meOne]; omega)] at h' ⊢
      exact meCells_take l j _ u h'
theorem me_set : ∀ (L : List Me) (i f : Nat) (e e' : Me) (u : Value), L[i]? = some e → f < 3 → (meOne e).set f u = meOne e' → (meCells L).set (i * 3 + f) u = meCells (L.set i e')
  | [], i, f, e, e', u, h, _, _ => by simp at h
  | y :: l, 0, f, e, e', u, h, hf, hu => by
    obtain rfl : y = e := by simpa using h
    show (meOne y ++ meCells l).set (0 * 3 + f) u = meOne e' ++ meCells l
    rw [Nat.zero_mul, Nat.zero_add, List.set_append_left _ _ (by simpa [meOne] using hf), hu]
  | y :: l, i + 1, f, e, e', u, h, hf, hu => by
    have := me_set l i f e e' u (by simpa using h) hf hu
    show (meOne y ++ meCells l).set ((i + 1) * 3 + f) u = meOne y ++ meCells (l.set i e')
    rw [List.set_append_right _ _ (by simp [meOne]; omega), ← this]
    congr 2; simp [meOne]; omega
/-- A model in memory: its box mp; its row, nil as long as there is none. -/
structure MoW (w : World) (mp : Nat) (a : Option Addr) (cap : Nat) (L : List Me) : Prop where
  box : w.heap[mp]? = some (.cells #[.slice a L.length cap] 30 (0, 0))
  row : w.ownsRow 0 48 3 (.slice a L.length cap) L.length (meCells L)
  form : (a = none ∧ L = [] ∧ cap = 0) ∨ ∃ g, a = some ⟨g, 0, none⟩
section
variable {w w' : World} {mp cap : Nat} {a : Option Addr} {L : List Me}
theorem MoW.ltm (h : MoW w mp a cap L) : mp < w.heap.size := (Array.getElem?_eq_some_iff.1 h.box).1
theorem MoW.cell (h : MoW w mp a cap L) : w.cell? ⟨mp, 0, none⟩ = some (.slice a L.length cap) := by simp [World.cell?, h.box]
theorem MoW.frz (h : MoW w mp a cap L) : w.frozen? ⟨mp, 0, none⟩ = false := by simp [World.frozen?, h.box]
theorem MoW.same (h : MoW w mp a cap L) (h1 : w'.heap[mp]? = w.heap[mp]?) (h2 : ∀ g, a = some ⟨g, 0, none⟩ → w'.heap[g]? = w.heap[g]?) : MoW w' mp a cap L := by
  refine ⟨h1.trans h.box, ⟨h.row.1, ?_⟩, h.form⟩
  rcases h.row.2 with ⟨h0, h3⟩ | ⟨g', cap', cur, hv, hb, hg, h4⟩
  · exact .inl ⟨h0, h3⟩
  · refine .inr ⟨g', cap', cur, hv, hb, ?_, h4⟩
    injection hv with ha _ _
    exact (h2 g' ha).trans hg
theorem MoW.ltg (h : MoW w mp a cap L) {g : Nat} (hg : a = some ⟨g, 0, none⟩) : g < w.heap.size := (h.row.lt g (by rw [hg]; rfl)).2
theorem MoW.below (h : MoW w mp a cap L) (hb : Below w.heap.size w w') : MoW w' mp a cap L := h.same (hb.block mp h.ltm) (fun g hg => hb.block g (h.ltg hg))
theorem MoW.cells (h : MoW w mp a cap L) (j : Nat) (e : Me) (he : L[j]? = some e) : ∃ g, a = some ⟨g, 0, none⟩ ∧ w.cell? ⟨g, j * 3, none⟩ = some (.int .i64 e.1) ∧ w.cell? ⟨g, j * 3 + 1, none⟩ = some (.int .i64 e.2.req) ∧ w.cell? ⟨g, j * 3 + 2, none⟩ = some (.string e.2.ans) := by
  have hj := (List.getElem?_eq_some_iff.1 he).1
  rcases h.form with ⟨_, h2, _⟩ | ⟨g, rfl⟩
  · rw [h2] at hj; simp at hj
  · have hat : ∀ i, i < 3 → w.cell? ⟨g, j * 3 + i, none⟩ = (meOne e)[i]? := fun i hi => by
      rw [h.row.cellAt (j * 3 + i) (by omega), meCells_at L j i e he hi]
    exact ⟨g, rfl, hat 0 (by omega), hat 1 (by omega), hat 2 (by omega)⟩
theorem MoW.frozen (h : MoW w mp a cap L) {g : Nat} (hg : a = some ⟨g, 0, none⟩) (i : Nat) : w.frozen? ⟨g, i, none⟩ = false := by subst hg; exact h.row.frozenAt i
theorem MoW.ne (h : MoW w mp a cap L) {g : Nat} (hg : a = some ⟨g, 0, none⟩) : mp ≠ g := by
  subst hg
  rintro rfl
  rcases h.row.2 with ⟨h0, _⟩ | ⟨g', cap', cur, hv, hb, hg, h4⟩
  · cases h0
  · injection hv with ha _ _
    injection ha with ha
    injection ha with ha _ _
    subst ha
    have := h.box.symm.trans hg
    injection this with this
    injection this with _ this
    exact absurd this (by decide)
theorem MoW.cap_le (h : MoW w mp a cap L) : L.length ≤ cap ∧ cap ≤ maxLen := by
  rcases h.row.2 with ⟨h0, h1⟩ | ⟨g', cap', cur, hv, hb, hg, h4, h5, _⟩
  · injection h0 with _ _ hc; rw [hc, h1]; exact ⟨Nat.le_refl _, by unfold maxLen; omega⟩
  · injection hv with _ _ hc; rw [hc]; exact ⟨h4, h5⟩
end
/-- Where a session is. -/
def atI (L : List Me) (id : Int) : Nat → Int
  | 0 => -1
  | n + 1 => match L[L.length - (n + 1)]? with
    | some e => if e.1 = id then ((L.length - (n + 1) : Nat) : Int) else atI L id n
    | none => -1
set_option maxHeartbeats 4000000 in
theorem at_any (mp cap : Nat) (a : Option Addr) (L : List Me) (id : Int) (w : World) (h : MoW w mp a cap L) (hL : L.length ≤ 1000) :
    Calls Try.prog 15 #[.pointer (some ⟨mp, 0, none⟩), .int .i64 id] w fun e w' => e = .returned (.int .i64 (atI L id L.length)) ∧ Below w.heap.size w w' := by
  have hc := h.cell
  go_enter Try.func15, Try.ntmps15
  go_wp2_with fail
  go_loopw [12] (fun iv wr => ∃ j : Nat, j ≤ L.length ∧ iv = .int .i64 j ∧ Hid (atI L id L.length = atI L id (L.length - j)) ∧ Below w.heap.size w wr) (fun iv _ => L.length - (intOf iv).toNat)
  case atStart => exact ⟨0, by omega, rfl, Lib.hid rfl, Below.refl _ _⟩
  case round =>
    obtain ⟨j, hj, rfl, hf, bk⟩ := hrel
    by_cases hlt : j < L.length
    · have hlt2 : decide ((j : Int) < (L.length : Int)) = true := by simp; omega
      obtain ⟨e, he⟩ : ∃ e, L[j]? = some e := ⟨L[j], by simp [hlt]⟩
      obtain ⟨g, rfl, c0, c1, c2⟩ := (h.below bk).cells j e he
      have hj0 : (0 : Int) ≤ (j : Int) := by omega
      have hji : (j : Int) < (L.length : Int) := by omega
      have t2 : IntKind.i64.wrap ((j : Int) + 1) = (j : Int) + 1 := IntWalk.i64_in _ (by omega)
      have hst : atI L id (L.length - j) = if e.1 = id then (j : Int) else atI L id (L.length - (j + 1)) := by
        obtain ⟨n, hn⟩ : ∃ n, L.length - j = n + 1 := ⟨L.length - j - 1, by omega⟩
        have h1 : L.length - (n + 1) = j := by omega
        have h2 : L.length - (j + 1) = n := by omega
        rw [hn, h2, atI, h1, he]
      have bA := bk.alloc bk.size (.cells #[.int .i64 e.1, .int .i64 e.2.req, .string e.2.ans] 48)
      by_cases hes : e.1 = id
      · have e1 : (e.1 == id) = true := by simpa using hes
        have HF : Hid (atI L id L.length = (j : Int)) := Lib.hid (by rw [hf.out, hst, if_pos hes])
        clear hst hf h hes
        go_wp2_with fail
        go_ret
        rw [HF.out]
        exact ⟨rfl, bA⟩
      · have e1 : (e.1 == id) = false := by simpa using hes
        have HF : Hid (atI L id L.length = atI L id (L.length - (j + 1))) := Lib.hid (by rw [hf.out, hst, if_neg hes])
        clear hst hf h hes
        go_wp2_with fail
        go_roundw
        case rel => exact ⟨j + 1, by omega, by go_num, HF, bA⟩
        case measure => simp [intOf]; omega
    · obtain rfl : j = L.length := by omega
      have hlt2 : decide ((L.length : Int) < (L.length : Int)) = false := by simp
      go_wp2_with fail
      go_ret
      rw [hf.out, Nat.sub_self]
      exact ⟨rfl, bk⟩
/-- A list that has a table's sessions, rising. -/
structure RepS (T : Int → Option Ss) (L : List Me) : Prop where
  asc : (L.map (·.1)).Pairwise (· < ·)
  mem : ∀ x s, T x = some s ↔ (x, s) ∈ L
theorem RepS.nodup {T : Int → Option Ss} {L : List Me} (h : RepS T L) : (L.map (·.1)).Nodup := h.asc.imp (by intro a b h; omega)
theorem RepS.nil : RepS noS [] := ⟨List.Pairwise.nil, fun x s => ⟨fun h => (by cases h), fun h => (by cases h)⟩⟩
theorem at_from (L : List Me) (s : Int) : ∀ n, n ≤ L.length → (atI L s n = -1 ∧ ∀ e ∈ L.drop (L.length - n), e.1 ≠ s) ∨ ∃ i e, atI L s n = ((i : Nat) : Int) ∧ L[i]? = some e ∧ e.1 = s
  | 0, _ => .inl ⟨rfl, fun e he => by simp at he⟩
  | n + 1, h => by
    obtain ⟨e, he⟩ : ∃ e, L[L.length - (n + 1)]? = some e := ⟨L[L.length - (n + 1)], by simp⟩
    rw [atI, he]
    simp only
    by_cases hs : e.1 = s
    · rw [if_pos hs]; exact .inr ⟨_, e, rfl, he, hs⟩
    · rw [if_neg hs]
      rcases at_from L s n (by omega) with ⟨h1, h2⟩ | h1
      · refine .inl ⟨h1, fun x hx => ?_⟩
        obtain ⟨hlt, hee⟩ := List.getElem?_eq_some_iff.1 he
        rw [List.drop_eq_getElem_cons hlt] at hx
        rcases List.mem_cons.1 hx with h3 | h3
        · rw [h3, hee]; exact hs
        · exact h2 x (by rw [show L.length - n = L.length - (n + 1) + 1 by omega]; exact h3)
      · exact .inr h1
theorem RepS.at_none {T : Int → Option Ss} {L : List Me} (h : RepS T L) {s : Int} (hs : T s = none) : atI L s L.length = -1 := by
  rcases at_from L s L.length (Nat.le_refl _) with ⟨h1, _⟩ | ⟨i, e, h1, h2, h3⟩
  · exact h1
  · have := (h.mem e.1 e.2).2 (List.mem_of_getElem? h2)
    rw [h3, hs] at this; cases this
theorem RepS.at_some {T : Int → Option Ss} {L : List Me} (h : RepS T L) {s : Int} {n : Ss} (hs : T s = some n) : ∃ i : Nat, atI L s L.length = (i : Int) ∧ L[i]? = some (s, n) := by
  rcases at_from L s L.length (Nat.le_refl _) with ⟨_, h2⟩ | ⟨i, e, h1, h2, h3⟩
  · exact absurd rfl (h2 (s, n) (by simpa using (h.mem s n).1 hs))
  · have := (h.mem e.1 e.2).2 (List.mem_of_getElem? h2)
    rw [h3, hs] at this
    injection this with this
    exact ⟨i, h1, by rw [h2, this, ← h3]⟩
set_option maxHeartbeats 4000000 in
theorem mseen_any (mp cap : Nat) (a : Option Addr) (L : List Me) (T : Int → Option Ss) (id req : Int) (w : World) (h : MoW w mp a cap L) (hR : RepS T L) (hL : L.length ≤ 1000) :
    Calls Try.prog 29 #[.pointer (some ⟨mp, 0, none⟩), .int .i64 id, .int .i64 req] w fun e w' => e = .returned (.tuple #[.string (seenS T id req).1, .bool (seenS T id req).2.1, .int .i64 (seenS T id req).2.2]) ∧ Below w.heap.size w w' := by
  have HA := Lib.hid (at_any mp cap a L id w h hL)
  have HM := Lib.hid h
  cases hT : T id with
  | none =>
    have HR : Hid (seenS T id req = (⟨#[]⟩, false, 17)) := Lib.hid (by unfold seenS; rw [hT])
    rw [hR.at_none hT] at HA
    clear h hT hR
    go_enter Try.func29, Try.ntmps29
    go_wp2_with fail
    refine HA.out.mono ?_
    rintro e w1 ⟨rfl, b1⟩
    go_wp2_with fail
    go_ret3
    rw [HR.out]
    exact ⟨rfl, b1⟩
  | some s =>
    obtain ⟨i, hi, hLi⟩ := hR.at_some hT
    rw [hi] at HA
    have hil : i < L.length := (List.getElem?_eq_some_iff.1 hLi).1
    have i0 : (0 : Int) ≤ (i : Int) := by omega
    have i1 : (i : Int) < (L.length : Int) := by omega
    have f0 : decide ((i : Int) < 0) = false := by simp
    have HC := Lib.hid (fun (W : World) (hW : Below w.heap.size w W) => (h.below hW).cells i (id, s) hLi)
    have hcase : (okN req = false ∧ seenS T id req = (⟨#[]⟩, false, 1)) ∨ (okN req = true ∧ decide (req < s.req) = true ∧ seenS T id req = (⟨#[]⟩, false, 18)) ∨ (okN req = true ∧ decide (req < s.req) = false ∧ (req == s.req) = true ∧ seenS T id req = (s.ans, true, 0)) ∨ (okN req = true ∧ decide (req < s.req) = false ∧ (req == s.req) = false ∧ seenS T id req = (⟨#[]⟩, false, 0)) := by
      unfold seenS; rw [hT]; simp only
      cases okN req
      · exact .inl ⟨rfl, rfl⟩
      · by_cases h1 : req < s.req
        · exact .inr (.inl ⟨rfl, by simpa using h1, by rw [if_neg (by decide), if_pos h1]⟩)
        · by_cases h2 : req = s.req
          · exact .inr (.inr (.inl ⟨rfl, by simpa using h1, by simpa using h2, by rw [if_neg (by decide), if_neg h1, if_pos h2]⟩))
          · exact .inr (.inr (.inr ⟨rfl, by simpa using h1, by simpa using h2, by rw [if_neg (by decide), if_neg h1, if_neg h2]⟩))
    have hok : ∀ b, okN req = b → (b = false ∧ (decide (req < 1) = true ∨ (decide (req < 1) = false ∧ decide (281474976710655 < req) = true))) ∨ (b = true ∧ decide (req < 1) = false ∧ decide (281474976710655 < req) = false) := fun b hb => by
      unfold okN at hb
      by_cases h1 : 1 ≤ req
      · by_cases h2 : req ≤ 281474976710655
        · right; simp [h1, h2] at hb; subst hb; simp; omega
        · left; simp [h1, h2] at hb; subst hb; simp; omega
      · left; simp [h1] at hb; subst hb; simp; omega
    clear h hT hR hi hLi hil
    rcases hcase with ⟨ho, hR⟩ | ⟨ho, d1, hR⟩ | ⟨ho, d1, d2, hR⟩ | ⟨ho, d1, d2, hR⟩
    · rcases hok _ ho with ⟨_, e1 | ⟨e1, e2⟩⟩ | ⟨h0, _⟩
      · rw [hR]
        clear ho hR hok
        go_enter Try.func29, Try.ntmps29
        go_wp2_with fail
        refine HA.out.mono ?_
        rintro e w1 ⟨rfl, b1⟩
        go_wp2_with fail
        go_ret3
        exact ⟨rfl, b1⟩
      · rw [hR]
        clear ho hR hok
        go_enter Try.func29, Try.ntmps29
        go_wp2_with fail
        refine HA.out.mono ?_
        rintro e w1 ⟨rfl, b1⟩
        go_wp2_with fail
        go_ret3
        exact ⟨rfl, b1⟩
      · cases h0
    all_goals
      rcases hok _ ho with ⟨h0, _⟩ | ⟨_, e1, e2⟩
      · cases h0
      rw [hR]
      clear ho hR hok
      go_enter Try.func29, Try.ntmps29
      go_wp2_with fail
      refine HA.out.mono ?_
      rintro e w1 ⟨rfl, b1⟩
      obtain ⟨g, rfl, c0, c1, c2⟩ := HC.out _ b1
      have x0 := (HM.out.below b1).cell
      try simp only at c0 c1 c2
      go_wp2_with fail
      go_ret3
      exact ⟨rfl, b1⟩
end Go.Proofs.Ytckengglamkaaaa
