/- The law's model of a tree: a list of nodes. No conditions beyond those in each statement. The law's model against a tree: Find, Check, Kids. No conditions beyond those in each statement. The law's model: Set. No conditions beyond those in each statement. The law's model: Kids. No conditions beyond those in each statement. -/
import Derived.Test.YtblcpihfnpgfiaaGreatDoorTreeOwned
namespace Go.Proofs.YtblcpihfnpgfiaaGreatDoor
section
open Go.RowKit Go.Maps Go.Sort
set_option linter.unusedVariables false
set_option linter.unusedSimpArgs false
set_option maxRecDepth 100000

abbrev Me := List UInt8 × Nd
def meOne (e : Me) : List Value := [.string (bs e.1), .string e.2.data, .int .i64 e.2.ver, .int .i64 e.2.below, .int .i64 e.2.owner, .int .i64 e.2.made, .int .i64 e.2.put, .int .i64 e.2.serial]
def meCells : List Me → List Value
  | [] => []
  | e :: l => meOne e ++ meCells l
theorem meCells_append (l m : List Me) : meCells (l ++ m) = meCells l ++ meCells m := by
  induction l with
  | nil => rfl
  | cons x l ih => show meOne x ++ meCells (l ++ m) = _; rw [ih, ← List.append_assoc]; rfl
theorem meCells_len (l : List Me) : (meCells l).length = l.length * 8 := by
  induction l with
  | nil => rfl
  | cons x l ih => show (meOne x ++ meCells l).length = _; rw [List.length_append, ih]; simp [meOne]; omega
theorem meCells_at : ∀ (l : List Me) (j i : Nat) (e : Me), l[j]? = some e → i < 8 → (meCells l)[j * 8 + i]? = (meOne e)[i]?
  | [], j, i, e, h, _ => by simp at h
  | y :: l, 0, i, e, h, hi => by
    obtain rfl : y = e := by simpa using h
    show (meOne y ++ meCells l)[0 * 8 + i]? = _
    rw [Nat.zero_mul, Nat.zero_add, List.getElem?_append_left (by simpa [meOne] using hi)]
  | y :: l, j + 1, i, e, h, hi => by
    have := meCells_at l j i e (by simpa using h) hi
    show (meOne y ++ meCells l)[(j + 1) * 8 + i]? = _
    rw [List.getElem?_append_right (by simp [meOne]; omega)]
    rw [← this]; congr 1; simp [meOne]; omega
/-- A model in memory: its box mp; its row g. -/
structure ModL (w : World) (base mp g cap : Nat) (L : List Me) : Prop where
  box : w.heap[mp]? = some (.cells #[.slice (some ⟨g, 0, none⟩) L.length cap] 47 (0, 0))
  row : w.ownsRow base 49 8 (.slice (some ⟨g, 0, none⟩) L.length cap) L.length (meCells L)
section
variable {w w' : World} {base mp g cap : Nat} {L : List Me}
theorem ModL.ltg (h : ModL w base mp g cap L) : g < w.heap.size := (h.row.lt g rfl).2
theorem ModL.ltm (h : ModL w base mp g cap L) : mp < w.heap.size := (Array.getElem?_eq_some_iff.1 h.box).1
theorem ModL.cell (h : ModL w base mp g cap L) : w.cell? ⟨mp, 0, none⟩ = some (.slice (some ⟨g, 0, none⟩) L.length cap) := by simp [World.cell?, h.box]
theorem ModL.same (h : ModL w base mp g cap L) (h1 : w'.heap[mp]? = w.heap[mp]?) (h2 : w'.heap[g]? = w.heap[g]?) : ModL w' base mp g cap L := by
  refine ⟨h1.trans h.box, h.row.1, ?_⟩
  rcases h.row.2 with ⟨h0, _⟩ | ⟨g', cap', cur, hv, hb, hg, h4⟩
  · cases h0
  · refine .inr ⟨g', cap', cur, hv, hb, ?_, h4⟩
    injection hv with ha _ _
    injection ha with ha
    injection ha with ha _ _
    rw [← ha] at hg ⊢
    exact h2.trans hg
theorem ModL.below (h : ModL w base mp g cap L) (hb : Below w.heap.size w w') : ModL w' base mp g cap L := h.same (hb.block mp h.ltm) (hb.block g h.ltg)
theorem ModL.at (h : ModL w base mp g cap L) (j i : Nat) (e : Me) (he : L[j]? = some e) (hi : i < 8) : w.cell? ⟨g, j * 8 + i, none⟩ = (meOne e)[i]? := by
  have hj := (List.getElem?_eq_some_iff.1 he).1
  rw [h.row.cellAt (j * 8 + i) (by omega), meCells_at L j i e he hi]
theorem ModL.cells (h : ModL w base mp g cap L) (j : Nat) (e : Me) (he : L[j]? = some e) : w.cell? ⟨g, j * 8, none⟩ = some (.string (bs e.1)) ∧ w.cell? ⟨g, j * 8 + 1, none⟩ = some (.string e.2.data) ∧ w.cell? ⟨g, j * 8 + 2, none⟩ = some (.int .i64 e.2.ver) ∧ w.cell? ⟨g, j * 8 + 3, none⟩ = some (.int .i64 e.2.below) ∧
    w.cell? ⟨g, j * 8 + 4, none⟩ = some (.int .i64 e.2.owner) ∧ w.cell? ⟨g, j * 8 + 5, none⟩ = some (.int .i64 e.2.made) ∧ w.cell? ⟨g, j * 8 + 6, none⟩ = some (.int .i64 e.2.put) ∧ w.cell? ⟨g, j * 8 + 7, none⟩ = some (.int .i64 e.2.serial) :=
  ⟨h.at j 0 e he (by omega), h.at j 1 e he (by omega), h.at j 2 e he (by omega), h.at j 3 e he (by omega), h.at j 4 e he (by omega), h.at j 5 e he (by omega), h.at j 6 e he (by omega), h.at j 7 e he (by omega)⟩
end
theorem mnew_any (w : World) : Calls Tryz.prog 9 #[] w fun e w' => e = .returned (.pointer (some ⟨w.heap.size + 1, 0, none⟩)) ∧ ModL w' w.heap.size (w.heap.size + 1) w.heap.size 1 [([47], Nd.zero)] ∧ Below w.heap.size w w' := by
  go_enter Tryz.func9, Tryz.ntmps9
  go_wp2_with fail
  go_ret
  refine ⟨rfl, ⟨?_, ?_⟩, ((Below.refl _ w).alloc (Nat.le_refl _) _).alloc (by simp) _⟩
  · have := heap_alloc_new (w.alloc (.cells #[.string ⟨#[47]⟩, .string ⟨#[]⟩, .int .i64 0, .int .i64 0, .int .i64 0, .int .i64 0, .int .i64 0, .int .i64 0] 49)) (.cells #[.slice (some ⟨w.heap.size, 0, none⟩) 1 1] 47)
    rw [World.size_alloc] at this; exact this
  · exact World.ownsRow.alloc (World.ownsRow_lit w #[.string ⟨#[47]⟩, .string ⟨#[]⟩, .int .i64 0, .int .i64 0, .int .i64 0, .int .i64 0, .int .i64 0, .int .i64 0] 1 (Nat.le_refl _) (by decide) rfl) _
/-- Where a node is. -/
def findI (L : List Me) (s : List UInt8) : Nat → Int
  | 0 => -1
  | n + 1 => match L[L.length - (n + 1)]? with
    | some e => if e.1 = s then ((L.length - (n + 1) : Nat) : Int) else findI L s n
    | none => -1
set_option maxHeartbeats 4000000 in
theorem mfind_any (base mp g cap : Nat) (L : List Me) (s : List UInt8) (w : World) (h : ModL w base mp g cap L) (hL : L.length ≤ 1000) :
    Calls Tryz.prog 58 #[.pointer (some ⟨mp, 0, none⟩), .string (bs s)] w fun e w' => e = .returned (.int .i64 (findI L s L.length)) ∧ Below w.heap.size w w' := by
  have hc := h.cell
  go_enter Tryz.func58, Tryz.ntmps58
  go_wp2_with fail
  go_loopw [12] (fun iv wr => ∃ j : Nat, j ≤ L.length ∧ iv = .int .i64 j ∧ Hid (findI L s L.length = findI L s (L.length - j)) ∧ Below w.heap.size w wr) (fun iv _ => L.length - (intOf iv).toNat)
  case atStart => exact ⟨0, by omega, rfl, Lib.hid rfl, Below.refl _ _⟩
  case round =>
    obtain ⟨j, hj, rfl, hf, bk⟩ := hrel
    by_cases hlt : j < L.length
    · have hlt2 : decide ((j : Int) < (L.length : Int)) = true := by simp; omega
      obtain ⟨e, he⟩ : ∃ e, L[j]? = some e := ⟨L[j], by simp [hlt]⟩
      obtain ⟨c0, c1, c2, c3, c4, c5, c6, c7⟩ := (h.below bk).cells j e he
      have hj0 : (0 : Int) ≤ (j : Int) := by omega
      have t2 : IntKind.i64.wrap ((j : Int) + 1) = (j : Int) + 1 := IntWalk.i64_in _ (by omega)
      have hst : findI L s (L.length - j) = if e.1 = s then (j : Int) else findI L s (L.length - (j + 1)) := by
        obtain ⟨n, hn⟩ : ∃ n, L.length - j = n + 1 := ⟨L.length - j - 1, by omega⟩
        have h1 : L.length - (n + 1) = j := by omega
        have h2 : L.length - (j + 1) = n := by omega
        rw [hn, h2, findI, h1, he]
      have bA := bk.alloc bk.size (.cells #[.string (bs e.1), .string e.2.data, .int .i64 e.2.ver, .int .i64 e.2.below, .int .i64 e.2.owner, .int .i64 e.2.made, .int .i64 e.2.put, .int .i64 e.2.serial] 49)
      by_cases hes : e.1 = s
      · have e1 : ((bs e.1).toList == (bs s).toList) = true := by rw [Lib.toList_data, Lib.toList_data, bs_list, bs_list]; simpa using hes
        have HF : Hid (findI L s L.length = (j : Int)) := Lib.hid (by rw [hf.out, hst, if_pos hes])
        clear hst hf h hes
        go_wp2_with fail
        go_ret
        rw [HF.out]
        exact ⟨rfl, bA⟩
      · have e1 : ((bs e.1).toList == (bs s).toList) = false := by rw [Lib.toList_data, Lib.toList_data, bs_list, bs_list]; simpa using hes
        have HF : Hid (findI L s L.length = findI L s (L.length - (j + 1))) := Lib.hid (by rw [hf.out, hst, if_neg hes])
        clear hst hf h hes
        go_wp2_with fail
        go_roundw
        case rel => exact ⟨j + 1, by omega, by go_num, HF, bA⟩
        case measure => simp [intOf]; omega
    · obtain rfl : j = L.length := by omega
      have hlt2 : decide ((L.length : Int) < (L.length : Int)) = false := by simp
      go_wp2_with fail
      go_ret
      rw [hf.out, Nat.sub_self]
      exact ⟨rfl, bk⟩
end
section
open Go.RowKit Go.Maps Go.Sort
set_option linter.unusedVariables false
set_option linter.unusedSimpArgs false
set_option maxRecDepth 100000

/-- A list that has a tree's nodes, each once. -/
structure Rep (T : List UInt8 → Option Nd) (L : List Me) : Prop where
  nodup : (L.map (·.1)).Nodup
  mem : ∀ x n, T x = some n ↔ (x, n) ∈ L
  sorted : (L.map (·.1)).Pairwise (fun a b => a < b)
/-- Every node but the root has its parent. -/
def ParOk (T : List UInt8 → Option Nd) : Prop := ∀ x n, T x = some n → x ≠ [47] → ∃ p, T (upP x) = some p
/-- All before place j are below s. -/
def LowL (L : List Me) (j : Nat) (s : List UInt8) : Prop := ∀ (i : Nat) (e : Me), i < j → L[i]? = some e → e.1 < s
/-- What stands at place j is not below s. -/
def StopL (L : List Me) (j : Nat) (s : List UInt8) : Prop := ∀ e : Me, L[j]? = some e → ¬ e.1 < s
theorem LowL.zero (L : List Me) (s : List UInt8) : LowL L 0 s := fun i e h => absurd h (Nat.not_lt_zero i)
theorem less_lt {a b : List UInt8} (h : Op.bytesLess (bs a).toList (bs b).toList = true) : a < b := by
  rw [Lib.toList_data, Lib.toList_data, bs_list, bs_list, bytesLess_eq] at h
  exact of_decide_eq_true h
theorem less_not {a b : List UInt8} (h : Op.bytesLess (bs a).toList (bs b).toList = false) : ¬ a < b := by
  rw [Lib.toList_data, Lib.toList_data, bs_list, bs_list, bytesLess_eq] at h
  exact of_decide_eq_false h
theorem LowL.succ {L : List Me} {j : Nat} {s : List UInt8} (h : LowL L j s) {e : Me} (he : L[j]? = some e) (hb : Op.bytesLess (bs e.1).toList (bs s).toList = true) : LowL L (j + 1) s := by
  intro i x hi hx
  by_cases e2 : i = j
  · subst e2; rw [he] at hx; injection hx with hx; rw [← hx]; exact less_lt hb
  · exact h i x (by omega) hx
theorem StopL.at {L : List Me} {j : Nat} {s : List UInt8} {e : Me} (he : L[j]? = some e) (hb : Op.bytesLess (bs e.1).toList (bs s).toList = false) : StopL L j s := by
  intro x hx
  rw [he] at hx; injection hx with hx; rw [← hx]; exact less_not hb
theorem StopL.len {L : List Me} {j : Nat} {s : List UInt8} (h : j = L.length) : StopL L j s := by
  intro x hx
  have := (List.getElem?_eq_some_iff.1 hx).1; omega
theorem ltL_trans {a b c : List UInt8} (h : a < b) (h2 : b < c) : a < c := List.lt_trans h h2
theorem ltL_ne {a b : List UInt8} (h : a < b) : a ≠ b := fun e => List.lt_irrefl b (e ▸ h)
theorem ltL_of {a b : List UInt8} (h : ¬ b < a) (hn : a ≠ b) : a < b := by
  rcases List.le_total a b with h1 | h1
  · by_cases h2 : a < b
    · exact h2
    · exact absurd (List.le_antisymm h1 (List.not_lt.1 h2)) hn
  · exact absurd (List.le_antisymm (List.not_lt.1 h) h1) hn
theorem ins_sorted {L : List Me} (h : (L.map (·.1)).Pairwise (fun a b => a < b)) {j : Nat} {s : List UInt8} (n : Nd) (h1 : LowL L j s) (h2 : StopL L j s) (hn : ∀ m, (s, m) ∉ L) : ((L.take j ++ (s, n) :: L.drop j).map (·.1)).Pairwise (fun a b => a < b) := by
  have hle : ∀ x ∈ L.take j, x.1 < s := fun x hx => by
    obtain ⟨i, hi, he⟩ := List.mem_iff_getElem.1 hx
    rw [List.length_take] at hi
    refine h1 i x (by omega) ?_
    rw [← he, List.getElem_take, List.getElem?_eq_getElem]
  have hge : ∀ x ∈ L.drop j, s < x.1 := fun x hx => by
    have hdl : j < L.length := by
      by_cases h9 : j < L.length
      · exact h9
      · rw [List.drop_eq_nil_of_le (by omega)] at hx; cases hx
    have hs0 : s < (L[j]).1 := ltL_of (h2 _ (List.getElem?_eq_getElem hdl)) (fun e => hn (L[j]).2 (by rw [e]; exact List.getElem_mem hdl))
    rw [List.drop_eq_getElem_cons hdl] at hx
    rcases List.mem_cons.1 hx with h3 | h3
    · rw [h3]; exact hs0
    · have hp := List.pairwise_map.1 h
      rw [← List.take_append_drop j L, List.drop_eq_getElem_cons hdl] at hp
      exact ltL_trans hs0 ((List.pairwise_cons.1 (List.pairwise_append.1 hp).2.1).1 x h3)
  have hp := List.pairwise_map.1 h
  rw [← List.take_append_drop j L] at hp
  obtain ⟨p1, p2, p3⟩ := List.pairwise_append.1 hp
  refine List.pairwise_map.2 (List.pairwise_append.2 ⟨p1, List.pairwise_cons.2 ⟨hge, p2⟩, fun a ha b hb => ?_⟩)
  rcases List.mem_cons.1 hb with h3 | h3
  · rw [h3]; exact hle a ha
  · exact p3 a ha b h3
theorem find_from (L : List Me) (s : List UInt8) : ∀ n, n ≤ L.length → (findI L s n = -1 ∧ ∀ e ∈ L.drop (L.length - n), e.1 ≠ s) ∨ ∃ i e, findI L s n = ((i : Nat) : Int) ∧ L[i]? = some e ∧ e.1 = s
  | 0, _ => .inl ⟨rfl, fun e he => by simp at he⟩
  | n + 1, h => by
    obtain ⟨e, he⟩ : ∃ e, L[L.length - (n + 1)]? = some e := ⟨L[L.length - (n + 1)], by simp⟩
    rw [findI, he]
    simp only
    by_cases hs : e.1 = s
    · rw [if_pos hs]; exact .inr ⟨_, e, rfl, he, hs⟩
    · rw [if_neg hs]
      rcases find_from L s n (by omega) with ⟨h1, h2⟩ | h1
      · refine .inl ⟨h1, fun x hx => ?_⟩
        obtain ⟨hlt, hee⟩ := List.getElem?_eq_some_iff.1 he
        rw [List.drop_eq_getElem_cons hlt] at hx
        rcases List.mem_cons.1 hx with h3 | h3
        · rw [h3, hee]; exact hs
        · exact h2 x (by rw [show L.length - n = L.length - (n + 1) + 1 by omega]; exact h3)
      · exact .inr h1
section
variable {T : List UInt8 → Option Nd} {L : List Me}
theorem Rep.find_none (h : Rep T L) {s : List UInt8} (hs : T s = none) : findI L s L.length = -1 := by
  rcases find_from L s L.length (Nat.le_refl _) with ⟨h1, _⟩ | ⟨i, e, h1, h2, h3⟩
  · exact h1
  · have := (h.mem e.1 e.2).2 (List.mem_of_getElem? h2)
    rw [h3, hs] at this; cases this
theorem Rep.find_some (h : Rep T L) {s : List UInt8} {n : Nd} (hs : T s = some n) : ∃ i : Nat, findI L s L.length = (i : Int) ∧ L[i]? = some (s, n) := by
  rcases find_from L s L.length (Nat.le_refl _) with ⟨_, h2⟩ | ⟨i, e, h1, h2, h3⟩
  · exact absurd rfl (h2 (s, n) (by simpa using (h.mem s n).1 hs))
  · have := (h.mem e.1 e.2).2 (List.mem_of_getElem? h2)
    rw [h3, hs] at this
    injection this with this
    exact ⟨i, h1, by rw [h2, this, ← h3]⟩
theorem Rep.root : Rep rootT [([47], Nd.zero)] := ⟨by simp, fun x n => by
  unfold rootT updN
  by_cases e : x = [47]
  · subst e; simp; exact eq_comm
  · simp [e], by simp⟩
end
set_option maxHeartbeats 4000000 in
theorem mchk_any (base mp g cap : Nat) (L : List Me) (T : List UInt8 → Option Nd) (s : List UInt8) (v : Int) (w : World) (h : ModL w base mp g cap L) (hR : Rep T L) (hL : L.length ≤ 1000) :
    Calls Tryz.prog 37 #[.pointer (some ⟨mp, 0, none⟩), .string (bs s), .int .i64 v] w fun e w' => e = .returned (.int .i64 (chkN T s v)) ∧ Below w.heap.size w w' := by
  have HC := Lib.hid (fun W : World => check_any (bs s) W)
  have HF := Lib.hid (fun (W : World) (hb : Below w.heap.size w W) => mfind_any base mp g cap L s W (h.below hb) hL)
  have HM := Lib.hid h
  cases hck : checkL s
  · have hE : checkE s = 10 := by unfold checkE; rw [hck]; rfl
    have hG : chkN T s v = 10 := by unfold chkN; rw [hck]; rfl
    rw [hG]
    have HE := Lib.hid hE
    clear hck hE hG h
    go_enter Tryz.func37, Tryz.ntmps37
    go_wp2_with fail
    refine (HC.out _).mono ?_
    rintro e w1 ⟨rfl, b1⟩
    rw [bs_list, HE.out]
    go_wp2_with fail
    go_ret
    exact ⟨rfl, b1⟩
  · have hE : checkE s = 0 := by unfold checkE; rw [hck]; rfl
    have HE := Lib.hid hE
    cases hT : T s with
    | none =>
      have hG : chkN T s v = 11 := by unfold chkN; rw [hck, hT]; rfl
      rw [hG]
      have HN := Lib.hid (hR.find_none hT)
      clear hck hE hG hT h
      go_enter Tryz.func37, Tryz.ntmps37
      go_wp2_with fail
      refine (HC.out _).mono ?_
      rintro e w1 ⟨rfl, b1⟩
      rw [bs_list, HE.out]
      go_wp2_with fail
      refine (HF.out _ b1).mono ?_
      rintro e w2 ⟨rfl, b2⟩
      rw [HN.out]
      replace b2 := b1.trans (b2.mono b1.size)
      go_wp2_with fail
      go_ret
      exact ⟨rfl, b2⟩
    | some n =>
      obtain ⟨i, hi, hLi⟩ := hR.find_some hT
      have hil : i < L.length := (List.getElem?_eq_some_iff.1 hLi).1
      have HI := Lib.hid hi
      have HLI := Lib.hid hLi
      have HCK : Hid (chkN T s v = if 0 ≤ v ∧ v ≠ n.ver then 14 else 0) := Lib.hid (by unfold chkN; rw [hck, hT]; rfl)
      have i0 : (0 : Int) ≤ (i : Int) := by omega
      have i1 : decide ((i : Int) < 0) = false := by simp
      have i2 : (i : Int) < (L.length : Int) := by omega
      clear hck hE hT h hLi hi
      by_cases hv : 0 ≤ v
      · have d1 : decide ((0 : Int) ≤ v) = true := by simpa using hv
        by_cases hv2 : n.ver = v
        · have d2 : (n.ver != v) = false := by simpa using hv2
          have d3 : (n.ver == v) = true := by simpa using hv2
          have HR : Hid (chkN T s v = 0) := Lib.hid (by rw [HCK.out, if_neg (fun h => h.2 hv2.symm)])
          clear hv2
          go_enter Tryz.func37, Tryz.ntmps37
          go_wp2_with fail
          refine (HC.out _).mono ?_
          rintro e w1 ⟨rfl, b1⟩
          rw [bs_list, HE.out]
          go_wp2_with fail
          refine (HF.out _ b1).mono ?_
          rintro e w2 ⟨rfl, b2⟩
          rw [HI.out]
          replace b2 := b1.trans (b2.mono b1.size)
          have M2 := HM.out.below b2
          have x0 := M2.cell
          obtain ⟨c0, c1, c2, c3, c4, c5, c6, c7⟩ := M2.cells i _ HLI.out
          clear M2
          go_wp2_with fail
          go_ret
          rw [HR.out]
          exact ⟨rfl, b2⟩
        · have d2 : (n.ver != v) = true := by simpa using hv2
          have d3 : (n.ver == v) = false := by simpa using hv2
          have HR : Hid (chkN T s v = 14) := Lib.hid (by rw [HCK.out, if_pos ⟨hv, fun h => hv2 h.symm⟩])
          clear hv2
          go_enter Tryz.func37, Tryz.ntmps37
          go_wp2_with fail
          refine (HC.out _).mono ?_
          rintro e w1 ⟨rfl, b1⟩
          rw [bs_list, HE.out]
          go_wp2_with fail
          refine (HF.out _ b1).mono ?_
          rintro e w2 ⟨rfl, b2⟩
          rw [HI.out]
          replace b2 := b1.trans (b2.mono b1.size)
          have M2 := HM.out.below b2
          have x0 := M2.cell
          obtain ⟨c0, c1, c2, c3, c4, c5, c6, c7⟩ := M2.cells i _ HLI.out
          clear M2
          go_wp2_with fail
          go_ret
          rw [HR.out]
          exact ⟨rfl, b2⟩
      · have d1 : decide ((0 : Int) ≤ v) = false := by simpa using hv
        have HR : Hid (chkN T s v = 0) := Lib.hid (by rw [HCK.out, if_neg (fun h => hv h.1)])
        go_enter Tryz.func37, Tryz.ntmps37
        go_wp2_with fail
        refine (HC.out _).mono ?_
        rintro e w1 ⟨rfl, b1⟩
        rw [bs_list, HE.out]
        go_wp2_with fail
        refine (HF.out _ b1).mono ?_
        rintro e w2 ⟨rfl, b2⟩
        rw [HI.out]
        replace b2 := b1.trans (b2.mono b1.size)
        go_wp2_with fail
        go_ret
        rw [HR.out]
        exact ⟨rfl, b2⟩
end
section
open Go.RowKit Go.Maps Go.Sort
set_option linter.unusedVariables false
set_option linter.unusedSimpArgs false
set_option maxRecDepth 100000

theorem me_set : ∀ (L : List Me) (i f : Nat) (e e' : Me) (u : Value), L[i]? = some e → f < 8 → (meOne e).set f u = meOne e' → (meCells L).set (i * 8 + f) u = meCells (L.set i e')
  | [], i, f, e, e', u, h, _, _ => by simp at h
  | y :: l, 0, f, e, e', u, h, hf, hu => by
    obtain rfl : y = e := by simpa using h
    show (meOne y ++ meCells l).set (0 * 8 + f) u = meOne e' ++ meCells l
    rw [Nat.zero_mul, Nat.zero_add, List.set_append_left _ _ (by simpa [meOne] using hf), hu]
  | y :: l, i + 1, f, e, e', u, h, hf, hu => by
    have := me_set l i f e e' u (by simpa using h) hf hu
    show (meOne y ++ meCells l).set ((i + 1) * 8 + f) u = meOne y ++ meCells (l.set i e')
    rw [List.set_append_right _ _ (by simp [meOne]; omega), ← this]
    congr 2; simp [meOne]; omega
theorem ModL.ne {w : World} {base mp g cap : Nat} {L : List Me} (h : ModL w base mp g cap L) : mp ≠ g := by
  rintro rfl
  rcases h.row.2 with ⟨h0, _⟩ | ⟨g', cap', cur, hv, hb, hg, h4⟩
  · cases h0
  · injection hv with ha _ _
    injection ha with ha
    injection ha with ha _ _
    subst ha
    have := h.box.symm.trans hg
    injection this with this
    injection this with _ this
    exact absurd this (by decide)
theorem ModL.put {w : World} {base mp g cap : Nat} {L : List Me} (h : ModL w base mp g cap L) (i f : Nat) (e e' : Me) (u : Value) (he : L[i]? = some e) (hf : f < 8) (hu : (meOne e).set f u = meOne e') : ModL (w.setCell ⟨g, i * 8 + f, none⟩ u) base mp g cap (L.set i e') := by
  obtain ⟨h1, h2⟩ := h.row.stored (i * 8 + f) u
  rw [me_set L i f e e' u he hf hu] at h1
  refine ⟨?_, ?_⟩
  · rw [List.length_set]; exact (h2.block mp h.ltm (fun e => h.ne (Option.some.inj e))).trans h.box
  · rw [List.length_set]; exact h1
theorem Rep.at {T : List UInt8 → Option Nd} {L : List Me} (h : Rep T L) {i j : Nat} {a b : Me} (hi : L[i]? = some a) (hj : L[j]? = some b) (e : a.1 = b.1) : i = j := by
  refine (List.getElem?_inj (l := L.map (·.1)) (by rw [List.length_map]; exact (List.getElem?_eq_some_iff.1 hi).1) h.nodup).1 ?_
  rw [List.getElem?_map, List.getElem?_map, hi, hj]; simp [e]
theorem Rep.set {T : List UInt8 → Option Nd} {L : List Me} (h : Rep T L) {i : Nat} {s : List UInt8} {n : Nd} (hi : L[i]? = some (s, n)) (n' : Nd) : Rep (updN T s (some n')) (L.set i (s, n')) := by
  have hil := (List.getElem?_eq_some_iff.1 hi).1
  have e : (L.set i (s, n')).map (·.1) = L.map (·.1) := by
      rw [List.map_set]
      refine List.ext_getElem? fun j => ?_
      by_cases e : i = j
      · subst e; rw [List.getElem?_set_self (by simpa using hil), List.getElem?_map, hi]; rfl
      · rw [List.getElem?_set_ne e]
  refine ⟨?_, fun x m => ?_, by rw [e]; exact h.sorted⟩
  · rw [e]; exact h.nodup
  · have hset : ∀ j, (L.set i (s, n'))[j]? = if i = j then some (s, n') else L[j]? := fun j => by
      by_cases e : i = j
      · subst e; rw [List.getElem?_set_self hil, if_pos rfl]
      · rw [List.getElem?_set_ne e, if_neg e]
    by_cases hx : x = s
    · subst hx
      rw [updN_same]
      constructor
      · intro e
        injection e with e
        rw [← e]
        exact List.mem_of_getElem? (i := i) (by rw [hset, if_pos rfl])
      · intro hm
        obtain ⟨j, hj⟩ := List.getElem?_of_mem hm
        rw [hset] at hj
        by_cases e : i = j
        · rw [if_pos e] at hj; injection hj with hj; injection hj with _ hj; rw [hj]
        · rw [if_neg e] at hj; exact absurd (h.at hi hj rfl) e
    · rw [updN_other hx, h.mem x m]
      constructor
      · intro hm
        obtain ⟨j, hj⟩ := List.getElem?_of_mem hm
        have e : i ≠ j := by rintro rfl; rw [hi] at hj; injection hj with hj; injection hj with hj _; exact hx hj.symm
        exact List.mem_of_getElem? (i := j) (by rw [hset, if_neg e]; exact hj)
      · intro hm
        obtain ⟨j, hj⟩ := List.getElem?_of_mem hm
        rw [hset] at hj
        by_cases e : i = j
        · rw [if_pos e] at hj; injection hj with hj; injection hj with hj _; exact absurd hj.symm hx
        · rw [if_neg e] at hj; exact List.mem_of_getElem? hj
/-- Nothing but two blocks has turned. -/
structure Only (w w' : World) (p q : Nat) : Prop where
  os : w'.os = w.os
  tape : w'.tape = w.tape
  output : w'.output = w.output
  size : w.heap.size ≤ w'.heap.size
  block : ∀ k, k < w.heap.size → k ≠ p → k ≠ q → w'.heap[k]? = w.heap[k]?
theorem Only.of_below {w w' : World} (p q : Nat) (h : Below w.heap.size w w') : Only w w' p q := ⟨h.os, h.tape, h.output, h.size, fun k hk _ _ => h.block k hk⟩
theorem Only.trans {a b c : World} {p q : Nat} (h : Only a b p q) (k : Only b c p q) : Only a c p q :=
  ⟨k.os.trans h.os, k.tape.trans h.tape, k.output.trans h.output, Nat.le_trans h.size k.size, fun j hj h1 h2 => (k.block j (Nat.lt_of_lt_of_le hj h.size) h1 h2).trans (h.block j hj h1 h2)⟩
theorem Only.set {a b : World} {p q : Nat} (h : Only a b p q) (o : Nat) (u : Value) : Only a (b.setCell ⟨q, o, none⟩ u) p q :=
  h.trans ⟨rfl, rfl, rfl, by simp, fun k _ _ h2 => heap_setCell_other b ⟨q, o, none⟩ k u (fun e => h2 (by simp [e]))⟩
set_option maxHeartbeats 4000000 in
theorem mset_any (base mp g cap : Nat) (L : List Me) (T : List UInt8 → Option Nd) (s : List UInt8) (d : ByteArray) (v t : Int) (w : World) (h : ModL w base mp g cap L) (hR : Rep T L) (hS : SmallT T) (hL : L.length ≤ 1000) (hd : d.size ≤ 1000) :
    Calls Tryz.prog 33 #[.pointer (some ⟨mp, 0, none⟩), .string (bs s), .string d, .int .i64 v, .int .i64 t] w fun e w' => e = .returned (.tuple #[.int .i64 (setN T s d v t).ver, .int .i64 (setN T s d v t).err]) ∧ ∃ L', ModL w' base mp g cap L' ∧ Rep (setN T s d v t).T L' ∧ L'.length = L.length ∧ Only w w' mp g := by
  obtain ⟨ce, hce⟩ : ∃ ce, ce = chkN T s v := ⟨_, rfl⟩
  have HC := Lib.hid (mchk_any base mp g cap L T s v w h hR hL)
  rw [← hce] at HC
  have HM := Lib.hid h
  have HR := Lib.hid hR
  obtain ⟨R, hRR⟩ : ∃ R, R = setN T s d v t := ⟨_, rfl⟩
  rw [← hRR]
  by_cases h0 : ce = 0
  · obtain ⟨nd, hnd⟩ := chk_some (hce.symm.trans h0)
    by_cases hd60 : 60 < d.size
    · have HRR : Hid (R = ⟨0, 3, T⟩) := Lib.hid (by rw [hRR]; unfold setN; rw [if_neg (by rw [← hce]; exact fun e => e h0), if_pos hd60])
      have d1 : decide ((60 : Int) < (d.size : Int)) = true := by simp; omega
      subst h0
      clear hRR hce hnd hS h hR
      go_enter Tryz.func33, Tryz.ntmps33
      go_wp2_with fail
      refine HC.out.mono ?_
      rintro e w1 ⟨rfl, b1⟩
      go_wp2_with fail
      go_ret2
      rw [HRR.out]
      exact ⟨rfl, L, HM.out.below b1, HR.out, rfl, Only.of_below _ _ b1⟩
    · have HRR : Hid (R = ⟨nd.ver + 1, 0, updN T s (some (putN nd d t))⟩) := Lib.hid (by rw [hRR]; unfold setN; rw [if_neg (by rw [← hce]; exact fun e => e h0), if_neg hd60, hnd]; rfl)
      have d1 : decide ((60 : Int) < (d.size : Int)) = false := by simp; omega
      obtain ⟨_, _, s0, s1⟩ := hS s nd hnd
      obtain ⟨i, hi, hLi⟩ := hR.find_some hnd
      have hil : i < L.length := (List.getElem?_eq_some_iff.1 hLi).1
      have HI := Lib.hid hi
      have HLI := Lib.hid hLi
      have HF := Lib.hid (fun (W : World) (hb : Below w.heap.size w W) => by
        have := mfind_any base mp g cap L s W (h.below hb) hL
        rw [hi] at this; exact this)
      have HB := Lib.hid (fun (x y : World) (hx : Below w.heap.size w x) (hb : Below x.heap.size x y) => (⟨(h.below (hx.trans (hb.mono hx.size))).cell, hx.trans (hb.mono hx.size)⟩ : y.cell? ⟨mp, 0, none⟩ = some (.slice (some ⟨g, 0, none⟩) L.length cap) ∧ Below w.heap.size w y))
      have i0 : (0 : Int) ≤ (i : Int) := by omega
      have i2 : (i : Int) < (L.length : Int) := by omega
      have HND := Lib.hid hnd
      subst h0
      clear hRR hce hS h hnd hLi hi hR
      go_enter Tryz.func33, Tryz.ntmps33
      go_wp2_with fail
      refine HC.out.mono ?_
      rintro e w1 ⟨rfl, b1⟩
      go_upto_region 6 with fail
      have b2 := b1.drew
      have p1 := (HM.out.below b2).cell
      go_region_held3 (fun w' => w'.cell? ⟨mp, 0, none⟩ = some (.slice (some ⟨g, 0, none⟩) L.length cap) ∧ Below w.heap.size w w') (first | (with_reducible assumption) | (refine ⟨?_, ?_⟩ <;> with_reducible assumption) | go_keep)
        ((go_at_call 58; ((with_reducible refine (HF.out _ ?hb1).mono ?_); (case hb1 => with_reducible assumption); rintro e w6 ⟨rfl, b6⟩; obtain ⟨p3, p4⟩ := HB.out _ _ (by with_reducible assumption) b6)))
      have M6 := HM.out.below p4
      obtain ⟨c0, c1, c2, c3, c4, c5, c6, c7⟩ := M6.cells i _ HLI.out
      have f1 := M6.row.frozenAt (i * 8 + 1)
      have f2 := M6.row.frozenAt (i * 8 + 2)
      have f6 := M6.row.frozenAt (i * 8 + 6)
      have M9 := ((M6.put i 1 _ (s, { nd with data := d }) (.string d) HLI.out (by decide) rfl).put i 2 (s, { nd with data := d }) (s, { nd with data := d, ver := nd.ver + 1 }) (.int .i64 (nd.ver + 1)) (by simp [hil]) (by decide) rfl).put i 6 (s, { nd with data := d, ver := nd.ver + 1 }) (s, putN nd d t) (.int .i64 t) (by simp [hil]) (by decide) rfl
      rw [List.set_set, List.set_set] at M9
      have O9 := (((Only.of_below mp g p4).set (i * 8 + 1) (.string d)).set (i * 8 + 2) (.int .i64 (nd.ver + 1))).set (i * 8 + 6) (.int .i64 t)
      clear p1 p3 b1 b2 M6
      go_wp2_with fail
      go_ret2
      rw [HRR.out]
      exact ⟨rfl, _, M9, HR.out.set HLI.out _, by rw [List.length_set], O9⟩
  · have HRR : Hid (R = ⟨0, ce, T⟩) := Lib.hid (by rw [hRR]; unfold setN; rw [if_pos (by rw [← hce]; exact h0), ← hce])
    have e1 : (ce != 0) = true := by simpa using h0
    have e2 : (ce == 0) = false := by simpa using h0
    clear hRR hce h0 h hR hS
    go_enter Tryz.func33, Tryz.ntmps33
    go_wp2_with fail
    refine HC.out.mono ?_
    rintro e w1 ⟨rfl, b1⟩
    go_wp2_with fail
    go_ret2
    rw [HRR.out]
    exact ⟨rfl, L, HM.out.below b1, HR.out, rfl, Only.of_below _ _ b1⟩
end
section
open Go.RowKit Go.Maps Go.Sort
set_option linter.unusedVariables false
set_option linter.unusedSimpArgs false
set_option maxRecDepth 100000

def isKid (s : List UInt8) (e : Me) : Bool := decide (upP e.1 = s) && !(decide (e.1 = [47]))
def kidsL (L : List Me) (s : List UInt8) : List (List UInt8) := (L.filter (isKid s)).map (fun e => lastP e.1)
theorem kidsL_len (L : List Me) (s : List UInt8) : (kidsL L s).length ≤ L.length := by unfold kidsL; rw [List.length_map]; exact List.length_filter_le _ _
theorem kidsL_succ (L : List Me) (s : List UInt8) (j : Nat) (e : Me) (h : L[j]? = some e) : kidsL (L.take (j + 1)) s = kidsL (L.take j) s ++ if isKid s e then [lastP e.1] else [] := by
  obtain ⟨hj, he⟩ := List.getElem?_eq_some_iff.1 h
  unfold kidsL
  rw [List.take_succ_eq_append_getElem hj, List.filter_append, List.map_append, he]
  congr 1
  by_cases hk : isKid s e
  · simp [hk]
  · simp [hk]
set_option maxHeartbeats 4000000 in
theorem mkids_any (base mp g cap : Nat) (L : List Me) (s : List UInt8) (w : World) (h : ModL w base mp g cap L) (hL : L.length ≤ 1000) (hK : ∀ e ∈ L, checkL e.1 = true) :
    Calls Tryz.prog 15 #[.pointer (some ⟨mp, 0, none⟩), .string (bs s)] w fun e w' => ∃ v, e = .returned v ∧ w'.ownsRow w.heap.size 9 1 v (kidsL L s).length ((kidsL L s).map encStr) ∧ Below w.heap.size w w' := by
  have b1 := (Below.refl w.heap.size w).alloc (Nat.le_refl _) (.cells #[] 9)
  have R1 : (w.alloc (.cells #[] 9)).ownsRow w.heap.size 9 1 (.slice (some ⟨w.heap.size, 0, none⟩) 0 0) 0 [] := World.ownsRow_made w #[] 0 (Nat.le_refl _) (Nat.zero_le _) rfl
  have hc := (h.below b1).cell
  obtain ⟨i0, hi0, hz0, hz1, hz2⟩ := info_parts info_str9
  have hmlt := h.ltm
  go_enter Tryz.func15, Tryz.ntmps15
  go_wp2_with fail
  go_loopw [5, 16] (fun lv iv wr => ∃ j : Nat, j ≤ L.length ∧ iv = .int .i64 j ∧ wr.ownsRow w.heap.size 9 1 lv (kidsL (L.take j) s).length ((kidsL (L.take j) s).map encStr) ∧ Below w.heap.size w wr) (fun _ iv _ => L.length - (intOf iv).toNat)
  case atStart => exact ⟨0, by omega, rfl, R1, b1⟩
  case round =>
    obtain ⟨j, hj, rfl, hown, bk⟩ := hrel
    clear R1 b1 hc
    by_cases hlt : j < L.length
    · have hlt2 : decide ((j : Int) < (L.length : Int)) = true := by simp; omega
      obtain ⟨e, he⟩ : ∃ e, L[j]? = some e := ⟨L[j], by simp [hlt]⟩
      obtain ⟨c0, c1, c2, c3, c4, c5, c6, c7⟩ := (h.below bk).cells j e he
      have hj0 : (0 : Int) ≤ (j : Int) := by omega
      have t2 : IntKind.i64.wrap ((j : Int) + 1) = (j : Int) + 1 := IntWalk.i64_in _ (by omega)
      have HST := Lib.hid (kidsL_succ L s j e he)
      have HU := Lib.hid (fun W : World => up_path e.1 W (hK e (List.mem_of_getElem? he)))
      have hkl := kidsL_len (L.take j) s
      have hkl2 : (L.take j).length ≤ 1000 := by rw [List.length_take]; omega
      have bA := bk.alloc bk.size (.cells #[.string (bs e.1), .string e.2.data, .int .i64 e.2.ver, .int .i64 e.2.below, .int .i64 e.2.owner, .int .i64 e.2.made, .int .i64 e.2.put, .int .i64 e.2.serial] 49)
      have rA := hown.alloc (.cells #[.string (bs e.1), .string e.2.data, .int .i64 e.2.ver, .int .i64 e.2.below, .int .i64 e.2.owner, .int .i64 e.2.made, .int .i64 e.2.put, .int .i64 e.2.serial] 49)
      have nA := heap_alloc_new wr (.cells #[.string (bs e.1), .string e.2.data, .int .i64 e.2.ver, .int .i64 e.2.below, .int .i64 e.2.owner, .int .i64 e.2.made, .int .i64 e.2.put, .int .i64 e.2.serial] 49)
      have hbs := bk.size
      clear h he hK
      go_wp2_with fail
      refine (HU.out _).mono ?_
      rintro e5 w5 ⟨rfl, m, hw5⟩
      have b5 := drewN_below (wr.alloc (.cells #[.string (bs e.1), .string e.2.data, .int .i64 e.2.ver, .int .i64 e.2.below, .int .i64 e.2.owner, .int .i64 e.2.made, .int .i64 e.2.put, .int .i64 e.2.serial] 49)) m
      rw [← hw5] at b5
      have n5 : w5.cell? ⟨wr.heap.size, 0, none⟩ = some (.string (bs e.1)) := by
        have h1 := nA
        rw [show (wr.alloc (.cells #[.string (bs e.1), .string e.2.data, .int .i64 e.2.ver, .int .i64 e.2.below, .int .i64 e.2.owner, .int .i64 e.2.made, .int .i64 e.2.put, .int .i64 e.2.serial] 49)).heap = w5.heap by rw [hw5]; rfl] at h1
        simp [World.cell?, h1]
      have R5 := rA.kept (below_grownBy b5 none) (by cases u5.ownBlock <;> simp)
      replace b5 := bA.trans (b5.mono bA.size)
      have z5 := b5.size
      clear hw5 nA bA rA c0 c1 c2 c3 c4 c5 c6 c7 hown bk HU
      by_cases hu : upP e.1 = s
      · have e2 : ((bs (upP e.1)).toList == (bs s).toList) = true := by rw [Lib.toList_data, Lib.toList_data, bs_list, bs_list]; simpa using hu
        by_cases hr : e.1 = [47]
        · have e3 : ((bs e.1).toList == [47]) = true := by rw [Lib.toList_data, bs_list]; simpa using hr
          have HF : Hid (kidsL (L.take (j + 1)) s = kidsL (L.take j) s) := Lib.hid (by rw [HST.out, if_neg (by simp [isKid, hr]), List.append_nil])
          clear hu hr
          go_wp2_with fail
          go_roundw
          case rel => exact ⟨j + 1, by omega, by go_num, by rw [HF.out]; exact R5, b5⟩
          case measure => simp [intOf]; omega
        · have e3 : ((bs e.1).toList == [47]) = false := by rw [Lib.toList_data, bs_list]; simpa using hr
          have HF : Hid (kidsL (L.take (j + 1)) s = kidsL (L.take j) s ++ [lastP e.1]) := Lib.hid (by rw [HST.out, if_pos (by simp [isKid, hr, hu])])
          clear hu hr
          have bB := b5.alloc b5.size (.cells #[.string (bs (lastP e.1))] 9)
          have rB := R5.alloc (.cells #[.string (bs (lastP e.1))] 9)
          have hnA := heap_alloc_new w5 (.cells #[.string (bs (lastP e.1))] 9)
          have HNW := Lib.hid (World.news_of_block hnA)
          clear hnA
          go_wp2_with (at_builtin; refine wpList_append_lies _ rfl _ _ _ rfl w.heap.size 9 i0 _ 1 16 und_strs9 hi0 hz0 hz1 hz2 rfl (by decide) u5 (kidsL (L.take j) s).length ((kidsL (L.take j) s).map encStr) rfl rB ⟨w5.heap.size, 0, none⟩ 1 1 [.string (bs (lastP e.1))] rfl rfl HNW.out (by simp [Value.oneCell']) (by decide) (by unfold maxLen; omega) (by omega) (by simp; omega) (w5.heap.size + 1) (by simp) ?_; intro g4 cap4 w7 hown7 hgrow7 hat7 hlt7; go_frame)
          go_roundw
          case rel => exact ⟨j + 1, by omega, by go_num, by rw [HF.out, List.length_append, List.map_append]; exact hown7, bB.grown hgrow7 bB.size (fun i hi => (World.ownsRow.lt rB i hi).1)⟩
          case measure => simp [intOf]; omega
      · have e2 : ((bs (upP e.1)).toList == (bs s).toList) = false := by rw [Lib.toList_data, Lib.toList_data, bs_list, bs_list]; simpa using hu
        have HF : Hid (kidsL (L.take (j + 1)) s = kidsL (L.take j) s) := Lib.hid (by rw [HST.out, if_neg (by simp [isKid, hu]), List.append_nil])
        clear hu
        go_wp2_with fail
        go_roundw
        case rel => exact ⟨j + 1, by omega, by go_num, by rw [HF.out]; exact R5, b5⟩
        case measure => simp [intOf]; omega
    · obtain rfl : j = L.length := by omega
      have hlt2 : decide ((L.length : Int) < (L.length : Int)) = false := by simp
      rw [List.take_length] at hown
      go_wp2_with fail
      go_ret
      exact ⟨_, rfl, hown, bk⟩
end
end Go.Proofs.YtblcpihfnpgfiaaGreatDoor
