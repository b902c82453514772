/- Same of commands; slices.Clone at operations; Made. No conditions beyond those in each statement. -/
import Derived.Test.YtkdbkbfloiponaaOpSame
namespace Go.Proofs.Ytkdbkbfloiponaa
open Go.RowKit
set_option linter.unusedVariables false
set_option linter.unusedSimpArgs false
set_option maxRecDepth 100000

set_option maxHeartbeats 8000000 in
theorem same_any (u1 u2 : Value) (c d : Cm) (w : World) (h1 : OpsR w u1 c.ops) (h2 : OpsR w u2 d.ops) :
    Calls Try.prog 10 #[cmV u1 c, cmV u2 d] w fun e w' => e = .returned (.bool (eqB c d)) ∧ Below w.heap.size w w' := by
  obtain ⟨k, s, q, n, L, p, x, y⟩ := c
  obtain ⟨k', s', q', n', L', p', x', y'⟩ := d
  simp only at h1 h2
  obtain ⟨a1, cap1, rfl⟩ := (show ∃ a cap, u1 = .slice a L.length cap by obtain ⟨a, cap, h, _⟩ := h1; exact ⟨a, cap, h⟩)
  obtain ⟨a2, cap2, rfl⟩ := (show ∃ a cap, u2 = .slice a L'.length cap by obtain ⟨a, cap, h, _⟩ := h2; exact ⟨a, cap, h⟩)
  have H1 := Lib.hid h1
  have H2 := Lib.hid h2
  clear h1 h2
  show Calls _ _ #[.agg #[.int .i64 k, .int .i64 s, .int .i64 q, .int .i64 n, .slice a1 L.length cap1, .string p, .bool x, .bool y], .agg #[.int .i64 k', .int .i64 s', .int .i64 q', .int .i64 n', .slice a2 L'.length cap2, .string p', .bool x', .bool y']] w _
  have bA := (Below.refl w.heap.size w).alloc (Nat.le_refl _) (.cells #[.int .i64 k, .int .i64 s, .int .i64 q, .int .i64 n, .slice a1 L.length cap1, .string p, .bool x, .bool y] 26)
  have bB := bA.alloc bA.size (.cells #[.int .i64 k', .int .i64 s', .int .i64 q', .int .i64 n', .slice a2 L'.length cap2, .string p', .bool x', .bool y'] 26)
  have N1 := cmB_new w (.slice a1 L.length cap1) k s q n p x y
  have N2 := cmB_new (w.alloc (.cells #[.int .i64 k, .int .i64 s, .int .i64 q, .int .i64 n, .slice a1 L.length cap1, .string p, .bool x, .bool y] 26)) (.slice a2 L'.length cap2) k' s' q' n' p' x' y'
  have N1' := (Below.heap_alloc (w.alloc (.cells #[.int .i64 k, .int .i64 s, .int .i64 q, .int .i64 n, .slice a1 L.length cap1, .string p, .bool x, .bool y] 26)) (.cells #[.int .i64 k', .int .i64 s', .int .i64 q', .int .i64 n', .slice a2 L'.length cap2, .string p', .bool x', .bool y'] 26) w.heap.size (Array.getElem?_eq_some_iff.1 N1).1).trans N1
  go_enter Try.func10, Try.ntmps10
  go_upto_region 1 with fail
  obtain ⟨w2, hw2⟩ : ∃ w2, w2 = ((w.alloc (.cells #[.int .i64 k, .int .i64 s, .int .i64 q, .int .i64 n, .slice a1 L.length cap1, .string p, .bool x, .bool y] 26)).alloc (.cells #[.int .i64 k', .int .i64 s', .int .i64 q', .int .i64 n', .slice a2 L'.length cap2, .string p', .bool x', .bool y'] 26)) := ⟨_, rfl⟩
  rw [← hw2] at N1' N2 bB ⊢
  rw [show (w.alloc (.cells #[.int .i64 k, .int .i64 s, .int .i64 q, .int .i64 n, .slice a1 L.length cap1, .string p, .bool x, .bool y] 26)).heap.size = w.heap.size + 1 by simp] at N2
  obtain ⟨c0, c1, c2, c3, c4, c5, c6, c7⟩ := cmB_cells N1'
  obtain ⟨d0, d1, d2, d3, d4, d5, d6, d7⟩ := cmB_cells N2
  have HEQ := Lib.hid (equal_any a1 a2 cap1 cap2 L L' w2 (H1.out.below bB) (H2.out.below bB))
  clear hw2 bA N1 N1' N2
  by_cases e0 : k = k'
  case neg =>
    have HF := Lib.hid (eqB_ne (fun e : (⟨k, s, q, n, L, p, x, y⟩ : Cm) = ⟨k', s', q', n', L', p', x', y'⟩ => e0 (by injection e)))
    have g : (k == k') = false := by simpa using e0
    clear e0
    go_wp2_with fail
    go_ret
    exact ⟨by rw [HF.out]; rfl, bB⟩
  by_cases e1 : s = s'
  case neg =>
    have HF := Lib.hid (eqB_ne (fun e : (⟨k, s, q, n, L, p, x, y⟩ : Cm) = ⟨k', s', q', n', L', p', x', y'⟩ => e1 (by injection e)))
    have g : (s == s') = false := by simpa using e1
    subst e0
    clear e1
    go_wp2_with fail
    go_ret
    exact ⟨by rw [HF.out]; rfl, bB⟩
  by_cases e2 : q = q'
  case neg =>
    have HF := Lib.hid (eqB_ne (fun e : (⟨k, s, q, n, L, p, x, y⟩ : Cm) = ⟨k', s', q', n', L', p', x', y'⟩ => e2 (by injection e)))
    have g : (q == q') = false := by simpa using e2
    subst e0
    subst e1
    clear e2
    go_wp2_with fail
    go_ret
    exact ⟨by rw [HF.out]; rfl, bB⟩
  by_cases e3 : n = n'
  case neg =>
    have HF := Lib.hid (eqB_ne (fun e : (⟨k, s, q, n, L, p, x, y⟩ : Cm) = ⟨k', s', q', n', L', p', x', y'⟩ => e3 (by injection e)))
    have g : (n == n') = false := by simpa using e3
    subst e0
    subst e1
    subst e2
    clear e3
    go_wp2_with fail
    go_ret
    exact ⟨by rw [HF.out]; rfl, bB⟩
  by_cases e4 : p = p'
  case neg =>
    have HF := Lib.hid (eqB_ne (fun e : (⟨k, s, q, n, L, p, x, y⟩ : Cm) = ⟨k', s', q', n', L', p', x', y'⟩ => e4 (by injection e)))
    have g : (p.toList == p'.toList) = false := str_ne e4
    subst e0
    subst e1
    subst e2
    subst e3
    clear e4
    go_wp2_with fail
    go_ret
    exact ⟨by rw [HF.out]; rfl, bB⟩
  by_cases e5 : x = x'
  case neg =>
    have HF := Lib.hid (eqB_ne (fun e : (⟨k, s, q, n, L, p, x, y⟩ : Cm) = ⟨k', s', q', n', L', p', x', y'⟩ => e5 (by injection e)))
    have g : (x == x') = false := by simpa using e5
    subst e0
    subst e1
    subst e2
    subst e3
    subst e4
    clear e5
    go_wp2_with fail
    go_ret
    exact ⟨by rw [HF.out]; rfl, bB⟩
  by_cases e6 : y = y'
  case neg =>
    have HF := Lib.hid (eqB_ne (fun e : (⟨k, s, q, n, L, p, x, y⟩ : Cm) = ⟨k', s', q', n', L', p', x', y'⟩ => e6 (by injection e)))
    have g : (y == y') = false := by simpa using e6
    subst e0
    subst e1
    subst e2
    subst e3
    subst e4
    subst e5
    clear e6
    go_wp2_with fail
    go_ret
    exact ⟨by rw [HF.out]; rfl, bB⟩
  subst e0 e1 e2 e3 e4 e5 e6
  have HF : Hid (eqB (⟨k, s, q, n, L, p, x, y⟩ : Cm) ⟨k, s, q, n, L', p, x, y⟩ = eqB L L') := Lib.hid (by
    rw [Bool.eq_iff_iff, eqB_true, eqB_true]
    exact ⟨fun e => by injection e, fun e => by rw [e]⟩)
  go_wp2_with fail
  refine HEQ.out.mono ?_
  rintro e w3 ⟨rfl, b3⟩
  go_wp2_with fail
  go_ret
  exact ⟨by rw [HF.out]; rfl, bB.trans (b3.mono bB.size)⟩
theorem OpsR.cells {w : World} {a : Addr} {c : Nat} {L : List Opr} (h : OpsR w (.slice (some a) L.length c) L) (q : Nat) (u : Value) (hq : (cellsK opOne L)[q]? = some u) : w.cell? (a.add q) = some u := by
  have hlt := (List.getElem?_eq_some_iff.1 hq).1
  rw [cellsK_len opOne_len] at hlt
  obtain ⟨p, cap, hv, _, _, h⟩ := h
  rcases h with h0 | ⟨g, off, hp, _, hc⟩
  · rw [h0] at hlt; omega
  · obtain rfl : p = some a := by injection hv with e1 e2 e3; exact e1.symm
    obtain rfl : a = ⟨g, off, none⟩ := Option.some.inj hp
    have hj : q / 6 < L.length := by omega
    have hx : L[q / 6]? = some (L.getD (q / 6) Opr.zero) := by rw [List.getD_eq_getElem?_getD, List.getElem?_eq_getElem hj]; rfl
    have e1 := cellsK_at opOne_len L (q / 6) (q % 6) _ hx (Nat.mod_lt _ (by decide))
    have hqq : q / 6 * 6 + q % 6 = q := by omega
    rw [hqq, hq] at e1
    obtain ⟨z0, z1, z2, z3, z4, z5⟩ := hc (q / 6) hj
    rw [show (⟨g, off, none⟩ : Addr).add q = ⟨g, off + q / 6 * 6 + q % 6, none⟩ by rw [Addr.add_lit, Nat.add_assoc, hqq]]
    have hm : q % 6 < 6 := Nat.mod_lt _ (by decide)
    generalize q % 6 = r at e1 hm
    match r, hm with
    | 0, _ => rw [e1]; exact z0
    | 1, _ => rw [e1]; exact z1
    | 2, _ => rw [e1]; exact z2
    | 3, _ => rw [e1]; exact z3
    | 4, _ => rw [e1]; exact z4
    | 5, _ => rw [e1]; exact z5
set_option maxHeartbeats 4000000 in
theorem clone_op (u : Value) (L : List Opr) (w : World) (h : OpsR w u L) (hL : L.length ≤ 1000000) :
    Calls Try.prog 34 #[u] w fun e w' => ∃ v', e = .returned v' ∧ ORow w' w.heap.size v' L ∧ Below w.heap.size w w' := by
  obtain ⟨i1, hi1, hz1, hz2, hz3⟩ := info_parts info_op
  have q22 : ∀ (w : World) (a : Option Addr) (n c n' c' : Nat), (binOp .eql 24 (.slice a n c) (.slice none n' c')).run Try.prog w = .ok (.bool a.isNone) w := fun w a n c n' c' => Lib.run_eql_slice_nil w _ _ a n c n' c' und_ops
  have h0 := h
  obtain ⟨a, c, rfl, hm, _, hh⟩ := h
  cases a with
  | none =>
    have hz : L.length = 0 := by rcases hh with hh | ⟨g, off, hp, _⟩; exact hh; cases hp
    obtain rfl := List.eq_nil_of_length_eq_zero hz
    clear h0 hh
    go_enter Try.func34, Try.ntmps34
    go_wp2_with fail
    go_ret
    exact ⟨_, rfl, ORow.nil _ _, Below.refl _ _⟩
  | some a =>
    have bA := (Below.refl w.heap.size w).alloc (Nat.le_refl _) (.cells #[] 50)
    obtain ⟨w1, hw1⟩ : ∃ w1, w1 = w.alloc (.cells #[] 50) := ⟨_, rfl⟩
    have O1 : w1.ownsRow w.heap.size 50 6 (.slice (some ⟨w.heap.size, 0, none⟩) 0 0) 0 [] := by
      rw [hw1]; exact World.ownsRow_made (base := w.heap.size) (e := 50) (size := 6) w #[] 0 (Nat.le_refl _) (Nat.zero_le _) rfl
    rw [← hw1] at bA
    have HC : Hid (∀ j u, (cellsK opOne L)[j]? = some u → w1.cell? (a.add j) = some u) := Lib.hid fun j u hu => (h0.below bA).cells j u hu
    have HO := Lib.hid O1
    have HW1 := Lib.hid hw1
    have HB := Lib.hid bA
    have hlen : (cellsK opOne L).length = L.length * 6 := cellsK_len opOne_len L
    have HLN := Lib.hid hlen
    clear h0 hh O1 bA hlen hw1
    go_enter Try.func34, Try.ntmps34
    go_wp2_with (at_builtin; rw [← HW1.out]; refine wpList_append_own _ rfl _ _ _ rfl w.heap.size 50 i1 _ 6 56 und_ops hi1 hz1 hz2 hz3 rfl (by decide) (.slice (some ⟨w.heap.size, 0, none⟩) 0 0) 0 [] rfl HO.out a L.length c (cellsK opOne L) rfl HLN.out HC.out (cellsK_one opOne_one L) (by unfold maxLen; omega) (by omega) HB.out.size ?_; intro v8 w8 hown8 hgrow8 hiff8; go_frame)
    go_ret
    rw [Nat.zero_add, List.nil_append] at hown8
    refine ⟨v8, rfl, hown8, HB.out.grown hgrow8 HB.out.size (fun q hq => by simp [Value.ownBlock] at hq; omega)⟩
def madeC (s q : Int) (L : List Opr) : Cm := ⟨3, s, q, 0, L, ⟨#[]⟩, false, false⟩
theorem made_results (W : World) (tmps : Array Value) (b : Nat) (v : Value) (n : Cm) (h2 : tmps.getD 6 undef = .pointer (some ⟨b, 0, none⟩)) (hN : CmB W b v n) :
    (results Try.f19 tmps).run Try.prog W = .ok (cmV v n) W := by
  obtain ⟨⟨c0, c1, c2, c3, c4, c5, c6, c7⟩, _⟩ := CmB.cells hN
  simp at h2
  simp [results, Try.results19, go_sem, h2, c0, c1, c2, c3, c4, c5, c6, c7, cmV]
set_option maxHeartbeats 4000000 in
theorem made_any (s q : Int) (u : Value) (L : List Opr) (w : World) (h : OpsR w u L) (hL : L.length ≤ 1000000) :
    Calls Try.prog 19 #[.int .i64 s, .int .i64 q, u] w fun e w' => ∃ v', e = .returned (cmV v' (madeC s q L)) ∧ ORow w' w.heap.size v' L ∧ Below w.heap.size w w' := by
  have bA := (Below.refl w.heap.size w).alloc (Nat.le_refl _) (.cells (cmA (.slice none 0 0) Cm.zero) 26)
  have N1 := CmB.new w (.slice none 0 0) Cm.zero
  have HC := Lib.hid (clone_op u L (w.alloc (.cells (cmA (.slice none 0 0) Cm.zero) 26)) (h.below bA) hL)
  have HN1 := Lib.hid N1
  have HB := Lib.hid bA
  clear N1 h
  go_enter Try.func19, Try.ntmps19
  go_wp2_with fail
  refine HC.out.mono ?_
  rintro e w2 ⟨v', rfl, O2, b2⟩
  obtain ⟨w1, hw1⟩ : ∃ w1, w1 = w.alloc (.cells (cmA (.slice none 0 0) Cm.zero) 26) := ⟨_, rfl⟩
  rw [← hw1] at O2 b2 HN1 HB
  have hws : w.heap.size < w1.heap.size := HN1.out.lt
  have N2 := HN1.out.below b2
  have bB := HB.out.trans (b2.mono HB.out.size)
  obtain ⟨⟨x0, x1, x2, x3, x4, x5, x6, x7⟩, y0, y1, y2, y3, y4, y5, y6, y7⟩ := N2.cells
  simp only [Cm.zero] at x0 x1 x2 x3 x5 x6 x7
  obtain ⟨a, c, rfl, _⟩ := O2.form
  have HZZ := Lib.hid (N2.set8 (v := .slice a L.length c) (madeC s q L))
  have HBZ := Lib.hid (below8 bB (Nat.le_refl _) (.int .i64 3) (.int .i64 s) (.int .i64 q) (.int .i64 0) (.slice a L.length c) (.string ⟨#[]⟩) (.bool false) (.bool false))
  have HO := Lib.hid O2
  clear hw1 N2 O2 bB bA b2 HC HN1 HB
  go_wp2_with fail
  refine bodyPost_ret (made_results _ _ w.heap.size (.slice a L.length c) (madeC s q L) rfl HZZ.out) rfl ⟨_, rfl, ?_, HBZ.out⟩
  exact ((((((((HO.out.set hws).set hws).set hws).set hws).set hws).set hws).set hws).set hws).less (by omega)
end Go.Proofs.Ytkdbkbfloiponaa
