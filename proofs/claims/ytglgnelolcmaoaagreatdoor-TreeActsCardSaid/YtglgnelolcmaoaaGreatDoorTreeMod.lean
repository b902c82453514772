/- The law's model of a tree: a list of nodes. No conditions beyond those in each statement. -/
import Derived.Test.YtglgnelolcmaoaaGreatDoorTreeOwned
namespace Go.Proofs.YtglgnelolcmaoaaGreatDoor
open Go.RowKit Go.Maps Go.Sort
set_option linter.unusedVariables false
set_option linter.unusedSimpArgs false
set_option maxRecDepth 100000

abbrev Me := List UInt8 × Nd
def meOne (e : Me) : List Value := [.string (bs e.1), .string e.2.data, .int .i64 e.2.ver, .int .i64 e.2.below, .int .i64 e.2.owner, .int .i64 e.2.made, .int .i64 e.2.put, .int .i64 e.2.serial]
def meCells : List Me → List Value
  | [] => []
  | e :: l => meOne e ++ meCells l
theorem meCells_append (l m : List Me) : meCells (l ++ m) = meCells l ++ meCells m := by
  induction l with
  | nil => rfl
  | cons x l ih => show meOne x ++ meCells (l ++ m) = _; rw [ih, ← List.append_assoc]; rfl
theorem meCells_len (l : List Me) : (meCells l).length = l.length * 8 := by
  induction l with
  | nil => rfl
  | cons x l ih => show (meOne x ++ meCells l).length = _; rw [List.length_append, ih]; simp [meOne]; omega
theorem meCells_at : ∀ (l : List Me) (j i : Nat) (e : Me), l[j]? = some e → i < 8 → (meCells l)[j * 8 + i]? = (meOne e)[i]?
  | [], j, i, e, h, _ => by simp at h
  | y :: l, 0, i, e, h, hi => by
    obtain rfl : y = e := by simpa using h
    show (meOne y ++ meCells l)[0 * 8 + i]? = _
    rw [Nat.zero_mul, Nat.zero_add, List.getElem?_append_left (by simpa [meOne] using hi)]
  | y :: l, j + 1, i, e, h, hi => by
    have := meCells_at l j i e (by simpa using h) hi
    show (meOne y ++ meCells l)[(j + 1) * 8 + i]? = _
    rw [List.getElem?_append_right (by simp [meOne]; omega)]
    rw [← this]; congr 1; simp [meOne]; omega
/-- A model in memory: its box mp; its row g. -/
structure ModL (w : World) (base mp g cap : Nat) (L : List Me) : Prop where
  box : w.heap[mp]? = some (.cells #[.slice (some ⟨g, 0, none⟩) L.length cap] 47 (0, 0))
  row : w.ownsRow base 49 8 (.slice (some ⟨g, 0, none⟩) L.length cap) L.length (meCells L)
section
variable {w w' : World} {base mp g cap : Nat} {L : List Me}
theorem ModL.ltg (h : ModL w base mp g cap L) : g < w.heap.size := (h.row.lt g rfl).2
theorem ModL.ltm (h : ModL w base mp g cap L) : mp < w.heap.size := (Array.getElem?_eq_some_iff.1 h.box).1
theorem ModL.cell (h : ModL w base mp g cap L) : w.cell? ⟨mp, 0, none⟩ = some (.slice (some ⟨g, 0, none⟩) L.length cap) := by simp [World.cell?, h.box]
theorem ModL.same (h : ModL w base mp g cap L) (h1 : w'.heap[mp]? = w.heap[mp]?) (h2 : w'.heap[g]? = w.heap[g]?) : ModL w' base mp g cap L := by
  refine ⟨h1.trans h.box, h.row.1, ?_⟩
  rcases h.row.2 with ⟨h0, _⟩ | ⟨g', cap', cur, hv, hb, hg, h4⟩
  · cases h0
  · refine .inr ⟨g', cap', cur, hv, hb, ?_, h4⟩
    injection hv with ha _ _
    injection ha with ha
    injection ha with ha _ _
    rw [← ha] at hg ⊢
    exact h2.trans hg
theorem ModL.below (h : ModL w base mp g cap L) (hb : Below w.heap.size w w') : ModL w' base mp g cap L := h.same (hb.block mp h.ltm) (hb.block g h.ltg)
theorem ModL.at (h : ModL w base mp g cap L) (j i : Nat) (e : Me) (he : L[j]? = some e) (hi : i < 8) : w.cell? ⟨g, j * 8 + i, none⟩ = (meOne e)[i]? := by
  have hj := (List.getElem?_eq_some_iff.1 he).1
  rw [h.row.cellAt (j * 8 + i) (by omega), meCells_at L j i e he hi]
theorem ModL.cells (h : ModL w base mp g cap L) (j : Nat) (e : Me) (he : L[j]? = some e) : w.cell? ⟨g, j * 8, none⟩ = some (.string (bs e.1)) ∧ w.cell? ⟨g, j * 8 + 1, none⟩ = some (.string e.2.data) ∧ w.cell? ⟨g, j * 8 + 2, none⟩ = some (.int .i64 e.2.ver) ∧ w.cell? ⟨g, j * 8 + 3, none⟩ = some (.int .i64 e.2.below) ∧
    w.cell? ⟨g, j * 8 + 4, none⟩ = some (.int .i64 e.2.owner) ∧ w.cell? ⟨g, j * 8 + 5, none⟩ = some (.int .i64 e.2.made) ∧ w.cell? ⟨g, j * 8 + 6, none⟩ = some (.int .i64 e.2.put) ∧ w.cell? ⟨g, j * 8 + 7, none⟩ = some (.int .i64 e.2.serial) :=
  ⟨h.at j 0 e he (by omega), h.at j 1 e he (by omega), h.at j 2 e he (by omega), h.at j 3 e he (by omega), h.at j 4 e he (by omega), h.at j 5 e he (by omega), h.at j 6 e he (by omega), h.at j 7 e he (by omega)⟩
end
theorem mnew_any (w : World) : Calls Tryz.prog 9 #[] w fun e w' => e = .returned (.pointer (some ⟨w.heap.size + 1, 0, none⟩)) ∧ ModL w' w.heap.size (w.heap.size + 1) w.heap.size 1 [([47], Nd.zero)] ∧ Below w.heap.size w w' := by
  go_enter Tryz.func9, Tryz.ntmps9
  go_wp2_with fail
  go_ret
  refine ⟨rfl, ⟨?_, ?_⟩, ((Below.refl _ w).alloc (Nat.le_refl _) _).alloc (by simp) _⟩
  · have := heap_alloc_new (w.alloc (.cells #[.string ⟨#[47]⟩, .string ⟨#[]⟩, .int .i64 0, .int .i64 0, .int .i64 0, .int .i64 0, .int .i64 0, .int .i64 0] 49)) (.cells #[.slice (some ⟨w.heap.size, 0, none⟩) 1 1] 47)
    rw [World.size_alloc] at this; exact this
  · exact World.ownsRow.alloc (World.ownsRow_lit w #[.string ⟨#[47]⟩, .string ⟨#[]⟩, .int .i64 0, .int .i64 0, .int .i64 0, .int .i64 0, .int .i64 0, .int .i64 0] 1 (Nat.le_refl _) (by decide) rfl) _
/-- Where a node is. -/
def findI (L : List Me) (s : List UInt8) : Nat → Int
  | 0 => -1
  | n + 1 => match L[L.length - (n + 1)]? with
    | some e => if e.1 = s then ((L.length - (n + 1) : Nat) : Int) else findI L s n
    | none => -1
set_option maxHeartbeats 4000000 in
theorem mfind_any (base mp g cap : Nat) (L : List Me) (s : List UInt8) (w : World) (h : ModL w base mp g cap L) (hL : L.length ≤ 1000) :
    Calls Tryz.prog 58 #[.pointer (some ⟨mp, 0, none⟩), .string (bs s)] w fun e w' => e = .returned (.int .i64 (findI L s L.length)) ∧ Below w.heap.size w w' := by
  have hc := h.cell
  go_enter Tryz.func58, Tryz.ntmps58
  go_wp2_with fail
  go_loopw [12] (fun iv wr => ∃ j : Nat, j ≤ L.length ∧ iv = .int .i64 j ∧ Hid (findI L s L.length = findI L s (L.length - j)) ∧ Below w.heap.size w wr) (fun iv _ => L.length - (intOf iv).toNat)
  case atStart => exact ⟨0, by omega, rfl, Lib.hid rfl, Below.refl _ _⟩
  case round =>
    obtain ⟨j, hj, rfl, hf, bk⟩ := hrel
    by_cases hlt : j < L.length
    · have hlt2 : decide ((j : Int) < (L.length : Int)) = true := by simp; omega
      obtain ⟨e, he⟩ : ∃ e, L[j]? = some e := ⟨L[j], by simp [hlt]⟩
      obtain ⟨c0, c1, c2, c3, c4, c5, c6, c7⟩ := (h.below bk).cells j e he
      have hj0 : (0 : Int) ≤ (j : Int) := by omega
      have t2 : IntKind.i64.wrap ((j : Int) + 1) = (j : Int) + 1 := IntWalk.i64_in _ (by omega)
      have hst : findI L s (L.length - j) = if e.1 = s then (j : Int) else findI L s (L.length - (j + 1)) := by
        obtain ⟨n, hn⟩ : ∃ n, L.length - j = n + 1 := ⟨L.length - j - 1, by omega⟩
        have h1 : L.length - (n + 1) = j := by omega
        have h2 : L.length - (j + 1) = n := by omega
        rw [hn, h2, findI, h1, he]
      have bA := bk.alloc bk.size (.cells #[.string (bs e.1), .string e.2.data, .int .i64 e.2.ver, .int .i64 e.2.below, .int .i64 e.2.owner, .int .i64 e.2.made, .int .i64 e.2.put, .int .i64 e.2.serial] 49)
      by_cases hes : e.1 = s
      · have e1 : ((bs e.1).toList == (bs s).toList) = true := by rw [Lib.toList_data, Lib.toList_data, bs_list, bs_list]; simpa using hes
        have HF : Hid (findI L s L.length = (j : Int)) := Lib.hid (by rw [hf.out, hst, if_pos hes])
        clear hst hf h hes
        go_wp2_with fail
        go_ret
        rw [HF.out]
        exact ⟨rfl, bA⟩
      · have e1 : ((bs e.1).toList == (bs s).toList) = false := by rw [Lib.toList_data, Lib.toList_data, bs_list, bs_list]; simpa using hes
        have HF : Hid (findI L s L.length = findI L s (L.length - (j + 1))) := Lib.hid (by rw [hf.out, hst, if_neg hes])
        clear hst hf h hes
        go_wp2_with fail
        go_roundw
        case rel => exact ⟨j + 1, by omega, by go_num, HF, bA⟩
        case measure => simp [intOf]; omega
    · obtain rfl : j = L.length := by omega
      have hlt2 : decide ((L.length : Int) < (L.length : Int)) = false := by simp
      go_wp2_with fail
      go_ret
      rw [hf.out, Nat.sub_self]
      exact ⟨rfl, bk⟩
end Go.Proofs.YtglgnelolcmaoaaGreatDoor
