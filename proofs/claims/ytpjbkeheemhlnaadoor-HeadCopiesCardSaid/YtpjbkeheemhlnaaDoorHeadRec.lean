/- head.recOf and Head; no conditions beyond those in each statement. -/
import Derived.Test.YtpjbkeheemhlnaaDoorHeadOf
namespace Go.Proofs.YtpjbkeheemhlnaaDoor
open Go.RowKit
set_option linter.unusedVariables false
set_option maxRecDepth 100000

theorem rret (A : Act) (W : World) (b : Nat) (r : Rc) (Q : Ending → World → Prop) (h2 : A.tmps.getD 4 undef = .pointer (some ⟨b, 0, none⟩)) (hd : A.defers = []) (hr : RecB W b r)
    (hq : Q (.returned (recV r)) W) : bodyPost Tryd.prog Tryd.f77 Q Exit.ret A W := by
  obtain ⟨⟨c0, c1, c2, c3⟩, _⟩ := hr.cells
  have e2 : A.tmps[4]?.getD undef = .pointer (some ⟨b, 0, none⟩) := by simpa using h2
  exact bodyPost_ret (v := recV r) (by simp [results, Tryd.results77, go_sem, recV, e2, c0, c1, c2, c3]) hd hq

set_option maxHeartbeats 4000000 in
theorem recOf_any (h : Hd) (i : Int) (w : World) (hf : h.Fits) :
    Calls Tryd.prog 77 #[headV h, .int .i64 i] w fun e w' => e = .returned (recV (copyR h i)) ∧ Below w.heap.size w w' := by
  have HN3 := Lib.hid (fun (g : Nat) (W : World) (hg : g < W.heap.size) => num_three h.vote h.first h.base g W hg hf.vote hf.first hf.base)
  have n0' := HdB.new w h
  have b0' := (Below.refl _ w).alloc (Nat.le_refl _) (.cells #[.int .i64 h.term, .int .i64 h.vote, .int .i64 h.first, .int .i64 h.base] 23)
  have b1 := (Below.refl (w.alloc (.cells #[.int .i64 h.term, .int .i64 h.vote, .int .i64 h.first, .int .i64 h.base] 23)).heap.size _).alloc (Nat.le_refl _) (.cells #[.int .i64 0, .int .i64 0, .int .i64 0, .string ⟨#[]⟩] 38)
  have n0 := n0'.below b1
  have r0 := RecB.new (w.alloc (.cells #[.int .i64 h.term, .int .i64 h.vote, .int .i64 h.first, .int .i64 h.base] 23)) ⟨0, 0, 0, ⟨#[]⟩⟩
  rw [World.size_alloc] at r0
  simp only at r0
  have B0 := b0'.trans (b1.mono b0'.size)
  obtain ⟨⟨c0, c1, c2, c3⟩, _⟩ := n0.cells
  clear b0' b1 n0' hf
  unfold headV
  go_enter Tryd.func77, Tryd.ntmps77
  go_wp2_with fail
  have b3 := (Below.refl ((w.alloc (.cells #[.int .i64 h.term, .int .i64 h.vote, .int .i64 h.first, .int .i64 h.base] 23)).alloc (.cells #[.int .i64 0, .int .i64 0, .int .i64 0, .string ⟨#[]⟩] 38)).heap.size _).alloc (Nat.le_refl _) (.cells #[.int .i64 h.vote, .int .i64 h.first, .int .i64 h.base] 3)
  have q := heap_alloc_new ((w.alloc (.cells #[.int .i64 h.term, .int .i64 h.vote, .int .i64 h.first, .int .i64 h.base] 23)).alloc (.cells #[.int .i64 0, .int .i64 0, .int .i64 0, .string ⟨#[]⟩] 38)) (.cells #[.int .i64 h.vote, .int .i64 h.first, .int .i64 h.base] 3)
  simp only [World.size_alloc] at q
  have n3 := n0.below b3
  have r3 := r0.below b3
  have B3 := B0.trans (b3.mono B0.size)
  refine (HN3.out (w.heap.size + 1 + 1) _ (by simp) (cell_of q rfl) (cell_of q rfl) (cell_of q rfl)).mono ?_
  rintro e w1 ⟨v1, rfl, ho1, hb1⟩
  have n4 := n3.below hb1
  have r4 := r3.below hb1
  have B4 := B3.trans (hb1.mono B3.size)
  have hcv := run_str ho1.src
  have HX := Lib.hid (show ByteArray.mk (numsE [h.vote, h.first, h.base]).toArray = (copyR h i).data from rfl)
  rw [HX.out] at hcv
  obtain ⟨⟨c0, c1, c2, c3⟩, _⟩ := n4.cells
  obtain ⟨⟨d0, d1, d2, d3⟩, f0, f1, f2, f3⟩ := r4.cells
  have B5 := below_rec B4 (show w.heap.size ≤ w.heap.size + 1 by omega) (copyR h i)
  clear ho1 hb1 q b3 n0 n3 r0 r3 B0 B3 HX
  go_wp2_with fail
  exact rret _ (setRec w1 (w.heap.size + 1) (copyR h i)) _ (copyR h i) _ rfl rfl (r4.set (copyR h i)) ⟨rfl, B5⟩

theorem headret (A : Act) (W : World) (b : Nat) (h : Hd) (Q : Ending → World → Prop) (h2 : A.tmps.getD 2 undef = .pointer (some ⟨b, 0, none⟩)) (hd : A.defers = []) (hr : HdB W b h)
    (hq : Q (.returned (headV h)) W) : bodyPost Tryd.prog Tryd.f21 Q Exit.ret A W := by
  obtain ⟨⟨c0, c1, c2, c3⟩, _⟩ := hr.cells
  have e2 : A.tmps[2]?.getD undef = .pointer (some ⟨b, 0, none⟩) := by simpa using h2
  exact bodyPost_ret (v := headV h) (by simp [results, Tryd.results21, go_sem, headV, e2, c0, c1, c2, c3]) hd hq

set_option maxHeartbeats 4000000 in
theorem head_nil (w : World) : Calls Tryd.prog 21 #[.pointer none] w fun e w' => e = .returned (headV hd0) ∧ Below w.heap.size w w' := by
  have n0 := HdB.new w hd0
  have b0 := (Below.refl _ w).alloc (Nat.le_refl _) (.cells #[.int .i64 hd0.term, .int .i64 hd0.vote, .int .i64 hd0.first, .int .i64 hd0.base] 23)
  obtain ⟨⟨c0, c1, c2, c3⟩, _⟩ := n0.cells
  unfold hd0 at *
  simp only at *
  go_enter Tryd.func21, Tryd.ntmps21
  go_wp2
  exact headret _ _ _ ⟨0, 0, 0, 0⟩ _ rfl rfl n0 ⟨rfl, b0⟩

set_option maxHeartbeats 4000000 in
theorem head_any (b B : Nat) (L : Rc) (w : World) (h : StB w b B L) (hs : L.data.size ≤ 140737488355328) :
    Calls Tryd.prog 21 #[.pointer (some ⟨b, 0, none⟩)] w fun e w' => e = .returned (headV (headL L)) ∧ Below w.heap.size w w' := by
  have n0 := HdB.new w hd0
  have b0 := (Below.refl _ w).alloc (Nat.le_refl _) (.cells #[.int .i64 hd0.term, .int .i64 hd0.vote, .int .i64 hd0.first, .int .i64 hd0.base] 23)
  have s0 := h.below b0
  unfold hd0 at n0 b0 s0
  simp only at n0 b0 s0
  by_cases hL : L = rc0
  · subst hL
    rw [headL_zero]
    have HF := Lib.hid (fresh_any b B rc0 _ s0 true (by simp))
    obtain ⟨⟨c0, c1, c2, c3⟩, f0, f1, f2, f3⟩ := n0.cells
    go_enter Tryd.func21, Tryd.ntmps21
    go_wp2_with (go_at_call 49; refine HF.out.mono ?_; rintro e w' ⟨rfl, rfl⟩)
    refine headret _ _ w.heap.size hd1 _ rfl rfl ?_ ⟨rfl, ?_⟩
    · exact HdB.new w hd1
    · exact (Below.refl _ w).alloc (Nat.le_refl _) _
  · rw [show headL L = (headF L).1 by unfold headL; rw [if_neg hL]]
    have HF := Lib.hid (fresh_any b B L _ s0 false (by simpa using hL))
    have HO := Lib.hid (fun (W : World) => headOf_any L W hs)
    obtain ⟨⟨s1, s2, s3, s4, s5⟩, _⟩ := s0.cells
    generalize headF L = x at *
    obtain ⟨q, t⟩ := x
    unfold headOfV headV recV at HO
    unfold headV
    simp only at HO ⊢
    go_enter Tryd.func21, Tryd.ntmps21
    go_wp2_with (go_at_call 49; refine HF.out.mono ?_; rintro e w' ⟨rfl, rfl⟩)
    refine (HO.out _).mono ?_
    rintro e w1 ⟨rfl, hb1⟩
    have n1 := n0.below hb1
    have B1 := b0.trans (hb1.mono b0.size)
    have b2 := (Below.refl w1.heap.size w1).alloc (Nat.le_refl _) (.cells #[.int .i64 q.term, .int .i64 q.vote, .int .i64 q.first, .int .i64 q.base] 23)
    have n2 := n1.below b2
    have m2 := HdB.new w1 q
    have B2 := below_hd (B1.trans (b2.mono B1.size)) (Nat.le_refl _) q
    obtain ⟨⟨c0, c1, c2, c3⟩, f0, f1, f2, f3⟩ := n2.cells
    obtain ⟨⟨m0, m1, m2', m3⟩, _⟩ := m2.cells
    go_wp2_with fail
    exact headret _ (setHd _ w.heap.size q) _ q _ rfl rfl (n2.set q) ⟨rfl, B2⟩
end Go.Proofs.YtpjbkeheemhlnaaDoor
