/- What the statements of package pith share: head, the kind of a part, and a part that is read. -/
import Derived.Test.YtefofhejaafgnaaPithTxt
import Derived.Laws.IdiomStrings
import Derived.Lib.BufferRead
namespace Go.Proofs.Ytefofhejaafgnaa
open Go.RowKit
set_option linter.unusedVariables false

theorem und_u8 : Try.prog.underlying 5 = some (.int .u8) := by kernel_rfl
theorem run_str {w : World} {v : Value} {l : List UInt8} (h : Src w v l) : (convert 24 9 v).run Try.prog w = .ok (.string ⟨l.toArray⟩) w := by
  obtain ⟨p, cap, rfl, ⟨rfl, rfl, rfl⟩ | ⟨a, rfl, hc⟩⟩ := h
  · exact Lib.run_convert_nil_bytes w 24 9 5 0 und_bytes und_u8 und_string
  · exact run_convert_bytes_back w 24 9 5 a cap l und_bytes und_u8 und_string (fun j hj => hc j _ (by simp [cellsOf, hj]))

set_option maxHeartbeats 400000 in
theorem head_any (w : World) :
    Calls Try.prog 10 #[] w fun e w' => e = .returned (.bool true) ∧ Below w.heap.size w w' := by
  have H := Lib.hid (num_one (.slice none 0 0) [] 258 w (Src.nil w) (by simp) (by omega))
  go_enter Try.func10, Try.ntmps10
  go_wp2_with fail
  refine H.out.mono ?_
  rintro e w' ⟨v', rfl, ho, hb⟩
  have hcv := run_str ho.src
  rw [show [] ++ numE 258 = [0, 0, 0, 0, 1, 2] by decide +kernel] at hcv
  clear ho
  go_wp2_with fail
  go_ret
  exact ⟨rfl, hb⟩

/-- A part's kind. -/
def kindN (z : Int) : Nat := (z % 18446744073709551616 % 3).toNat
theorem kindN_lt (z : Int) : kindN z < 3 := by unfold kindN; omega
theorem kind_form (k : Int) : wrap64 ((IntKind.u64.wrap k).tmod 3) = (kindN k : Int) := by
  rw [IntKind.wrap_u64, tmod_of_emod, IntWalk.wrap64_in _ (by omega)]
  unfold kindN
  omega
set_option maxHeartbeats 400000 in
theorem kind_any (k n : Int) (s : ByteArray) (c : Int) (hc : c = kindN k) (w : World) :
    Calls Try.prog 11 #[.agg #[.int .i64 k, .int .i64 n, .string s]] w fun e w' => e = .returned (.int .i64 c) ∧ w' = w.alloc (.cells #[.int .i64 k, .int .i64 n, .string s] 26) := by
  have HC := Lib.hid hc
  clear hc
  have HK := Lib.hid (kind_form k)
  go_enter Try.func11, Try.ntmps11
  go_wp2
  rw [HK.out, ← HC.out]
  go_ret
  exact ⟨rfl, rfl⟩

/-- What 'read' gives back, and where the reader stands then. -/
def partV (k n : Int) (s : List UInt8) : Value := .agg #[.int .i64 k, .int .i64 n, .string ⟨s.toArray⟩]
def readF (k : Nat) (st : RS) : (Int × List UInt8) × RS :=
  if k = 0 then (((numF 6 281474976710655 st).1, []), (numF 6 281474976710655 st).2)
  else if k = 1 then ((0, (textF 1000 st).1), (textF 1000 st).2)
  else ((if (flagF st).1 = true then 1 else 0, []), (flagF st).2)

theorem Rs.belowB {w w' : World} {b B : Nat} {st : RS} (h : Rs w b st) (k : Below B w w') (hb : b < B) : Rs w' b st := by
  cases st with
  | none => exact (k.block b hb).trans h
  | some l => exact ⟨(k.block b hb).trans h.1, h.2⟩
theorem below_set {B : Nat} {a w : World} (h : Below B a w) (c i : Nat) (hc : B ≤ c) (u : Value) : Below B a (w.setCell ⟨c, i, none⟩ u) := h.setCell (p := ⟨c, i, none⟩) hc u
theorem only_set {a w : World} {g : Nat} (h : a.grownBy w (some g)) (c i : Nat) (hc : a.heap.size ≤ c) (u : Value) : a.grownBy (w.setCell ⟨c, i, none⟩ u) (some g) := only_setCell h (p := ⟨c, i, none⟩) (.inr hc) u
theorem read_end {w w2 : World} {b : Nat} {st : RS} (hr : Rs w2 b st) (hlt : b < w.heap.size) (G : w.grownBy w2 (some b)) (x y z u : Value) :
    Rs ((((w2.setCell ⟨w.heap.size + 1 + 1 + 1, 1, none⟩ x).setCell ⟨w.heap.size + 1, 0, none⟩ y).setCell ⟨w.heap.size + 1, 1, none⟩ z).setCell ⟨w.heap.size + 1, 2, none⟩ u) b st ∧
    w.grownBy ((((w2.setCell ⟨w.heap.size + 1 + 1 + 1, 1, none⟩ x).setCell ⟨w.heap.size + 1, 0, none⟩ y).setCell ⟨w.heap.size + 1, 1, none⟩ z).setCell ⟨w.heap.size + 1, 2, none⟩ u) (some b) :=
  ⟨hr.belowB (below_set (below_set (below_set (below_set (Below.refl w.heap.size w2) _ _ (by omega) x) _ _ (by omega) y) _ _ (by omega) z) _ _ (by omega) u) hlt,
   only_set (only_set (only_set (only_set G _ _ (by omega) x) _ _ (by omega) y) _ _ (by omega) z) _ _ (by omega) u⟩
theorem cells3 {w : World} {b : Nat} {x y z : Value} {t : TypeId} (h : w.heap[b]? = some (.cells #[x, y, z] t (0, 0))) :
    (w.cell? ⟨b, 0, none⟩ = some x ∧ w.cell? ⟨b, 1, none⟩ = some y ∧ w.cell? ⟨b, 2, none⟩ = some z) ∧ w.frozen? ⟨b, 0, none⟩ = false ∧ w.frozen? ⟨b, 1, none⟩ = false ∧ w.frozen? ⟨b, 2, none⟩ = false := by
  simp [World.cell?, World.frozen?, h]
theorem five_blocks (w : World) (A B C D E : Obj) :
    (((((w.alloc A).alloc B).alloc C).alloc D).alloc E).heap[w.heap.size + 1]? = some B ∧ (((((w.alloc A).alloc B).alloc C).alloc D).alloc E).heap[w.heap.size + 1 + 1 + 1]? = some D ∧
    (((((w.alloc A).alloc B).alloc C).alloc D).alloc E).heap.size = w.heap.size + 5 ∧ Below w.heap.size w (((((w.alloc A).alloc B).alloc C).alloc D).alloc E) := by
  refine ⟨?_, ?_, by simp, ?_⟩
  · rw [Below.heap_alloc _ _ (w.heap.size + 1) (by simp), Below.heap_alloc _ _ (w.heap.size + 1) (by simp), Below.heap_alloc _ _ (w.heap.size + 1) (by simp)]
    have := heap_alloc_new (w.alloc A) B
    simpa using this
  · rw [Below.heap_alloc _ _ (w.heap.size + 1 + 1 + 1) (by simp)]
    have := heap_alloc_new (((w.alloc A).alloc B).alloc C) D
    simpa using this
  · exact (((((Below.refl _ w).alloc (Nat.le_refl _) A).alloc (by simp) B).alloc (by simp; omega) C).alloc (by simp; omega) D).alloc (by simp; omega) E

theorem read_end2 {w w2 : World} {b : Nat} {st : RS} (hr : Rs w2 b st) (hlt : b < w.heap.size) (G : w.grownBy w2 (some b)) (i : Nat) (x y z u : Value) :
    Rs ((((w2.setCell ⟨w.heap.size + 1 + 1 + 1, i, none⟩ x).setCell ⟨w.heap.size + 1, 0, none⟩ y).setCell ⟨w.heap.size + 1, 1, none⟩ z).setCell ⟨w.heap.size + 1, 2, none⟩ u) b st ∧
    w.grownBy ((((w2.setCell ⟨w.heap.size + 1 + 1 + 1, i, none⟩ x).setCell ⟨w.heap.size + 1, 0, none⟩ y).setCell ⟨w.heap.size + 1, 1, none⟩ z).setCell ⟨w.heap.size + 1, 2, none⟩ u) (some b) :=
  ⟨hr.belowB (below_set (below_set (below_set (below_set (Below.refl w.heap.size w2) _ _ (by omega) x) _ _ (by omega) y) _ _ (by omega) z) _ _ (by omega) u) hlt,
   only_set (only_set (only_set (only_set G _ _ (by omega) x) _ _ (by omega) y) _ _ (by omega) z) _ _ (by omega) u⟩
theorem read_end3 {w w2 : World} {b : Nat} {st : RS} (hr : Rs w2 b st) (hlt : b < w.heap.size) (G : w.grownBy w2 (some b)) (y z u : Value) :
    Rs (((w2.setCell ⟨w.heap.size + 1, 0, none⟩ y).setCell ⟨w.heap.size + 1, 1, none⟩ z).setCell ⟨w.heap.size + 1, 2, none⟩ u) b st ∧
    w.grownBy (((w2.setCell ⟨w.heap.size + 1, 0, none⟩ y).setCell ⟨w.heap.size + 1, 1, none⟩ z).setCell ⟨w.heap.size + 1, 2, none⟩ u) (some b) :=
  ⟨hr.belowB (below_set (below_set (below_set (Below.refl w.heap.size w2) _ _ (by omega) y) _ _ (by omega) z) _ _ (by omega) u) hlt,
   only_set (only_set (only_set G _ _ (by omega) y) _ _ (by omega) z) _ _ (by omega) u⟩

set_option maxHeartbeats 1000000 in
theorem read_num (b : Nat) (st : RS) (k n : Int) (s : ByteArray) (w : World) (h : Rs w b st) (hk : 0 = (kindN k : Int)) :
    Calls Try.prog 17 #[.pointer (some ⟨b, 0, none⟩), .agg #[.int .i64 k, .int .i64 n, .string s]] w fun e w' =>
      e = .returned (partV 0 (numF 6 281474976710655 st).1 []) ∧ Rs w' b (numF 6 281474976710655 st).2 ∧ w.grownBy w' (some b) := by
  have HK := Lib.hid hk
  have HN := Lib.hid (fun (W : World) (hW : Rs W b st) => num_rs b 281474976710655 st W hW)
  rw [show max (281474976710655 : Int) 0 = 281474976710655 by decide] at HN
  generalize numF 6 281474976710655 st = r at *
  clear hk
  go_enter Try.func17, Try.ntmps17
  go_wp2_with (go_at_call 11; refine (kind_any k n s 0 HK.out _).mono ?_; rintro e w' ⟨rfl, rfl⟩)
  obtain ⟨g1, g2, g3, g4⟩ := five_blocks w (.cells #[.int .i64 k, .int .i64 n, .string s] 26) (.cells #[.int .i64 0, .int .i64 0, .string ⟨#[]⟩] 26) (.cells #[.int .i64 k, .int .i64 n, .string s] 26) (.cells #[.int .i64 0, .int .i64 0, .string ⟨#[]⟩] 26) (.cells #[.int .i64 k, .int .i64 n, .string s] 26)
  refine (HN.out _ (h.below g4)).mono ?_
  rintro e w2 ⟨rfl, hr, hg⟩
  have hlt := h.lt
  have q := (hg.block (w.heap.size + 1 + 1 + 1) (by rw [g3]; omega) (by simp; omega)).trans g2
  have p := (hg.block (w.heap.size + 1) (by rw [g3]; omega) (by simp; omega)).trans g1
  obtain ⟨⟨q0, q1, q2⟩, q3, q4, q5⟩ := cells3 q
  obtain ⟨⟨p0, p1, p2⟩, p3, p4, p5⟩ := cells3 p
  have G := Lib.hid (only_trans (only_of_below g4 (some b)) hg)
  clear q p g1 g2 g3 g4 hg
  go_wp2_with fail
  obtain ⟨hr2, hg2⟩ := read_end hr hlt G.out (.int .i64 r.1) (.int .i64 0) (.int .i64 r.1) (.string ⟨#[]⟩)
  exact bodyPost_ret (v := partV 0 r.1 []) (by simp [results, Try.results17, go_sem, partV, p0, p1, p2]) rfl ⟨rfl, hr2, hg2⟩
set_option maxHeartbeats 1000000 in
theorem read_text (b : Nat) (st : RS) (k n : Int) (s : ByteArray) (w : World) (h : Rs w b st) (hk : 1 = (kindN k : Int)) :
    Calls Try.prog 17 #[.pointer (some ⟨b, 0, none⟩), .agg #[.int .i64 k, .int .i64 n, .string s]] w fun e w' =>
      e = .returned (partV 1 0 (textF 1000 st).1) ∧ Rs w' b (textF 1000 st).2 ∧ w.grownBy w' (some b) := by
  have HK := Lib.hid hk
  have HN := Lib.hid (fun (W : World) (hW : Rs W b st) => text_rs b 1000 st W hW)
  generalize textF 1000 st = r at *
  clear hk
  go_enter Try.func17, Try.ntmps17
  go_wp2_with (go_at_call 11; refine (kind_any k n s 1 HK.out _).mono ?_; rintro e w' ⟨rfl, rfl⟩)
  obtain ⟨g1, g2, g3, g4⟩ := five_blocks w (.cells #[.int .i64 k, .int .i64 n, .string s] 26) (.cells #[.int .i64 0, .int .i64 0, .string ⟨#[]⟩] 26) (.cells #[.int .i64 k, .int .i64 n, .string s] 26) (.cells #[.int .i64 1, .int .i64 0, .string ⟨#[]⟩] 26) (.cells #[.int .i64 k, .int .i64 n, .string s] 26)
  refine (HN.out _ (h.below g4)).mono ?_
  rintro e w2 ⟨rfl, hr, hg⟩
  have hlt := h.lt
  have q := (hg.block (w.heap.size + 1 + 1 + 1) (by rw [g3]; omega) (by simp; omega)).trans g2
  have p := (hg.block (w.heap.size + 1) (by rw [g3]; omega) (by simp; omega)).trans g1
  obtain ⟨⟨q0, q1, q2⟩, q3, q4, q5⟩ := cells3 q
  obtain ⟨⟨p0, p1, p2⟩, p3, p4, p5⟩ := cells3 p
  have G := Lib.hid (only_trans (only_of_below g4 (some b)) hg)
  clear q p g1 g2 g3 g4 hg
  go_wp2_with fail
  obtain ⟨hr2, hg2⟩ := read_end2 hr hlt G.out 2 (.string ⟨r.1.toArray⟩) (.int .i64 1) (.int .i64 0) (.string ⟨r.1.toArray⟩)
  exact bodyPost_ret (v := partV 1 0 r.1) (by simp [results, Try.results17, go_sem, partV, p0, p1, p2]) rfl ⟨rfl, hr2, hg2⟩
set_option maxHeartbeats 1000000 in
theorem read_flag (b : Nat) (st : RS) (k n : Int) (s : ByteArray) (w : World) (h : Rs w b st) (hk : 2 = (kindN k : Int)) :
    Calls Try.prog 17 #[.pointer (some ⟨b, 0, none⟩), .agg #[.int .i64 k, .int .i64 n, .string s]] w fun e w' =>
      e = .returned (partV 2 (if (flagF st).1 = true then 1 else 0) []) ∧ Rs w' b (flagF st).2 ∧ w.grownBy w' (some b) := by
  have HK := Lib.hid hk
  have HN := Lib.hid (fun (W : World) (hW : Rs W b st) => flag_rs b st W hW)
  generalize flagF st = r at *
  clear hk
  obtain ⟨f, r2⟩ := r
  cases f with
  | true =>
    go_enter Try.func17, Try.ntmps17
    go_wp2_with (go_at_call 11; refine (kind_any k n s 2 HK.out _).mono ?_; rintro e w' ⟨rfl, rfl⟩)
    obtain ⟨g1, g2, g3, g4⟩ := five_blocks w (.cells #[.int .i64 k, .int .i64 n, .string s] 26) (.cells #[.int .i64 0, .int .i64 0, .string ⟨#[]⟩] 26) (.cells #[.int .i64 k, .int .i64 n, .string s] 26) (.cells #[.int .i64 2, .int .i64 0, .string ⟨#[]⟩] 26) (.cells #[.int .i64 k, .int .i64 n, .string s] 26)
    refine (HN.out _ (h.below g4)).mono ?_
    rintro e w2 ⟨rfl, hr, hg⟩
    have hlt := h.lt
    have q := (hg.block (w.heap.size + 1 + 1 + 1) (by rw [g3]; omega) (by simp; omega)).trans g2
    have p := (hg.block (w.heap.size + 1) (by rw [g3]; omega) (by simp; omega)).trans g1
    obtain ⟨⟨q0, q1, q2⟩, q3, q4, q5⟩ := cells3 q
    obtain ⟨⟨p0, p1, p2⟩, p3, p4, p5⟩ := cells3 p
    have G := Lib.hid (only_trans (only_of_below g4 (some b)) hg)
    clear q p g1 g2 g3 g4 hg
    go_wp2_with fail
    obtain ⟨hr2, hg2⟩ := read_end hr hlt G.out (.int .i64 1) (.int .i64 2) (.int .i64 1) (.string ⟨#[]⟩)
    exact bodyPost_ret (v := partV 2 1 []) (by simp [results, Try.results17, go_sem, partV, p0, p1, p2]) rfl ⟨rfl, hr2, hg2⟩
  | false =>
    go_enter Try.func17, Try.ntmps17
    go_wp2_with (go_at_call 11; refine (kind_any k n s 2 HK.out _).mono ?_; rintro e w' ⟨rfl, rfl⟩)
    obtain ⟨g1, g2, g3, g4⟩ := five_blocks w (.cells #[.int .i64 k, .int .i64 n, .string s] 26) (.cells #[.int .i64 0, .int .i64 0, .string ⟨#[]⟩] 26) (.cells #[.int .i64 k, .int .i64 n, .string s] 26) (.cells #[.int .i64 2, .int .i64 0, .string ⟨#[]⟩] 26) (.cells #[.int .i64 k, .int .i64 n, .string s] 26)
    refine (HN.out _ (h.below g4)).mono ?_
    rintro e w2 ⟨rfl, hr, hg⟩
    have hlt := h.lt
    have q := (hg.block (w.heap.size + 1 + 1 + 1) (by rw [g3]; omega) (by simp; omega)).trans g2
    have p := (hg.block (w.heap.size + 1) (by rw [g3]; omega) (by simp; omega)).trans g1
    obtain ⟨⟨q0, q1, q2⟩, q3, q4, q5⟩ := cells3 q
    obtain ⟨⟨p0, p1, p2⟩, p3, p4, p5⟩ := cells3 p
    have G := Lib.hid (only_trans (only_of_below g4 (some b)) hg)
    clear q p g1 g2 g3 g4 hg
    go_wp2_with fail
    obtain ⟨hr2, hg2⟩ := read_end3 hr hlt G.out (.int .i64 2) (.int .i64 0) (.string ⟨#[]⟩)
    exact bodyPost_ret (v := partV 2 0 []) (by simp [results, Try.results17, go_sem, partV, p0, p1, p2]) rfl ⟨rfl, hr2, hg2⟩

/-- A part that is read, whatever its kind. -/
theorem read_rs (b : Nat) (st : RS) (k n : Int) (s : ByteArray) (w : World) (h : Rs w b st) :
    Calls Try.prog 17 #[.pointer (some ⟨b, 0, none⟩), .agg #[.int .i64 k, .int .i64 n, .string s]] w fun e w' =>
      e = .returned (partV (kindN k) (readF (kindN k) st).1.1 (readF (kindN k) st).1.2) ∧ Rs w' b (readF (kindN k) st).2 ∧ w.grownBy w' (some b) := by
  have hk := kindN_lt k
  by_cases h0 : kindN k = 0
  · have := read_num b st k n s w h (by rw [h0]; rfl)
    rw [h0]; exact this
  · by_cases h1 : kindN k = 1
    · have := read_text b st k n s w h (by rw [h1]; rfl)
      rw [h1]; exact this
    · have h2 : kindN k = 2 := by omega
      have := read_flag b st k n s w h (by rw [h2]; rfl)
      rw [h2]; exact this
theorem readF_none (k : Nat) : readF k none = ((0, []), none) := by
  unfold readF
  split
  · rfl
  · split <;> rfl
end Go.Proofs.Ytefofhejaafgnaa
