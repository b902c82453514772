/- The law's head: the document's example holds. No conditions beyond those in each statement. -/
import Derived.Test.YtfijidaohlnphaaNAbs
namespace Go.Proofs.Ytfijidaohlnphaa
open Go.RowKit
set_option linter.unusedVariables false
set_option linter.unusedSimpArgs false
set_option maxRecDepth 100000

theorem MgB.keepT {w w' : World} {b : Nat} {u v : Value} {m : Mg} (h : MgB w b u v m) (k : KeepT w w') : MgB w' b u v m := (k b _ _ _ h (by decide) (by decide)).trans h
/-- A net in a new block, then a message in a new block. -/
theorem two_new (w : World) (ix : Int) : ∃ W, W = (w.alloc (.cells #[.int .i64 0, .int .i64 0, .slice none 0 0] 28)).alloc (.cells (mgA (.slice none 0 0) (.slice none 0 0) (mgI ix)) 41) ∧ NetX W w.heap.size w.heap.size 0 0 [] ∧ MgB W (w.heap.size + 1) (.slice none 0 0) (.slice none 0 0) (mgI ix) ∧ Below w.heap.size w W := by
  refine ⟨_, rfl, ?_, ?_, ?_⟩
  · exact (NetX.new (heap_alloc_new w _) (Nat.le_refl _)).below ((Below.refl _ _).alloc (Nat.le_refl _) _)
  · have := MgB.new (w.alloc (.cells #[.int .i64 0, .int .i64 0, .slice none 0 0] 28)) (.slice none 0 0) (.slice none 0 0) (mgI ix)
    rwa [show (w.alloc (.cells #[.int .i64 0, .int .i64 0, .slice none 0 0] 28)).heap.size = w.heap.size + 1 by simp] at this
  · exact ((Below.refl w.heap.size w).alloc (Nat.le_refl _) _).alloc (by simp) _
theorem one_new {w : World} {base nb : Nat} {now sent : Int} {F : List Fl} (h : NetX w base nb now sent F) (ix : Int) : ∃ W, W = w.alloc (.cells (mgA (.slice none 0 0) (.slice none 0 0) (mgI ix)) 41) ∧ NetX W base nb now sent F ∧ MgB W w.heap.size (.slice none 0 0) (.slice none 0 0) (mgI ix) ∧ Below w.heap.size w W :=
  ⟨_, rfl, h.below ((Below.refl _ _).alloc (Nat.le_refl _) _), MgB.new w _ _ _, (Below.refl _ _).alloc (Nat.le_refl _) _⟩
/-- What Next returned is laid in a new block. -/
theorem got_new {w : World} {base nb : Nat} {now sent : Int} {F : List Fl} (h : NetX w base nb now sent F) (n c k sc : Nat) (a sa : Option Addr) (m : Mg) : ∃ W', (Instr.storeAt 41 (.pointer (some ⟨w.heap.size, 0, none⟩)) (mgV (.slice a n c) (.slice sa k sc) m)).run Try.prog (w.alloc (.cells #[.int .i64 0, .int .i64 0, .int .i64 0, .int .i64 0, .int .i64 0, .int .i64 0, .int .i64 0, .int .i64 0, .slice none 0 0, .bool false, .int .i64 0, .int .i64 0, .int .i64 0, .int .i64 0, .slice none 0 0, .int .i64 0, .string ⟨#[]⟩] 41)) = .ok () W' ∧ NetX W' base nb now sent F ∧ MgB W' w.heap.size (.slice a n c) (.slice sa k sc) m ∧ Below w.heap.size w W' ∧ w.heap.size < W'.heap.size := by
  obtain ⟨W', h1, h2, h3⟩ := newM w n c k sc a sa m
  exact ⟨W', h1, h.below h3, h2, h3, h2.lt⟩
set_option maxHeartbeats 8000000 in
theorem head_any (w : World) : Calls Try.prog 7 #[] w fun e w' => e = .returned (.bool true) ∧ Below w.heap.size w w' := by
  obtain ⟨W1, hW1, N1, M1, b1⟩ := two_new w 1
  unfold mgA mgI at hW1
  simp only at hW1
  have HW1 := Lib.hid hW1
  have HB1 := Lib.hid b1
  have HS1 := Lib.hid (N1.send1 (by decide) 2 M1 (by decide) (by decide))
  clear hW1 N1 M1 b1
  go_enter Try.func7, Try.ntmps7
  go_wp2_with fail
  rw [← HW1.out]
  refine HS1.out.mono ?_
  rintro e w2 ⟨rfl, f1, hf1, N2, b2, k2⟩
  obtain ⟨W3, hW3, N3, M3, b3⟩ := one_new N2 2
  unfold mgA mgI at hW3
  simp only at hW3
  have HW3 := Lib.hid hW3
  have HF1 := Lib.hid hf1
  have HB3 := Lib.hid ((HB1.out.trans b2).trans (b3.mono (HB1.out.trans b2).size))
  have HS3 := Lib.hid (N3.send1 (by simp) 1 M3 (by decide) (by decide))
  clear hW3 N3 M3 b3 N2 b2 k2 HS1 HW1 HB1 hf1
  go_wp2_with fail
  rw [← HW3.out]
  refine HS3.out.mono ?_
  rintro e w4 ⟨rfl, f2, hf2, N4, b4, k4⟩
  have HF2 := Lib.hid hf2
  have HB4 := Lib.hid (HB3.out.trans b4)
  have HP4 := Lib.hid (N4.pass (by decide))
  clear HS3 HW3 HB3 hf2 N4 b4 k4
  go_wp2_with fail
  refine HP4.out.mono ?_
  rintro e w5 ⟨rfl, N5, b5, k5⟩
  have HB5 := Lib.hid (HB4.out.trans b5)
  have HP5 := Lib.hid (N5.pass (by decide))
  clear HP4 HB4 N5 b5 k5
  go_wp2_with fail
  refine HP5.out.mono ?_
  rintro e w6 ⟨rfl, N6, b6, k6⟩
  have HB6 := Lib.hid (HB5.out.trans b6)
  have d1 : f1.due = 2 := by rw [HF1.out.due]; decide
  have d2 : f2.due = 1 := by rw [HF2.out.due]; decide
  have i1 : f1.m.ix = 1 := HF1.out.ix
  have i2 : f2.m.ix = 2 := HF2.out.ix
  have HX6 := Lib.hid (NetX.next (A := [f1]) (B := []) (f := f2) N6 (by rw [d2]; decide) (fun g hg => by rw [List.mem_singleton.1 hg, d1, d2]; decide) (fun g hg => by cases hg))
  have HD1 := Lib.hid d1
  have HI1 := Lib.hid i1
  have HI2 := Lib.hid i2
  clear HP5 HB5 N6 b6 k6 d1 d2 i1 i2
  go_wp2_with fail
  refine HX6.out.mono ?_
  rintro e w7 ⟨rfl, N7, b7, k7⟩
  obtain ⟨W8, hst8, N8, M8, b8, s8⟩ := got_new N7 f2.un f2.uc f2.vn f2.vc f2.ua f2.va f2.m
  have HB7 := Lib.hid (HB6.out.trans b7)
  have HB8 := Lib.hid (HB7.out.trans (b8.mono HB7.out.size))
  have HM8 := Lib.hid M8
  have HX8 := Lib.hid (NetX.next (A := []) (B := []) (f := f1) N8 (by rw [HD1.out]; decide) (fun g hg => by cases hg) (fun g hg => by cases hg))
  unfold mgV at hst8
  have HST8 := Lib.hid hst8
  clear HX6 HB6 N7 b7 k7 hst8 N8 M8 b8 s8
  unfold mgV Fl.u Fl.v
  go_wp2_with (first | (refine wpList_store_run HST8.out rfl rfl rfl rfl ?_))
  refine HX8.out.mono ?_
  rintro e w9 ⟨rfl, N9, b9, k9⟩
  obtain ⟨W10, hst10, N10, M10, b10, s10⟩ := got_new N9 f1.un f1.uc f1.vn f1.vc f1.ua f1.va f1.m
  have HB9 := Lib.hid (HB8.out.trans b9)
  have HB10 := Lib.hid (HB9.out.trans (b10.mono HB9.out.size))
  have HM9 := Lib.hid ((HM8.out.keepT k9).below b10)
  have HM10 := Lib.hid M10
  have HX10 := Lib.hid (N10.late (fun g hg => by cases hg))
  unfold mgV at hst10
  have HST10 := Lib.hid hst10
  clear HX8 HST8 HB8 HM8 N9 b9 k9 hst10 N10 M10 b10 s10
  unfold mgV Fl.u Fl.v
  go_wp2_with (first | (refine wpList_store_run HST10.out rfl rfl rfl rfl ?_))
  refine HX10.out.mono ?_
  rintro e w11 ⟨rfl, N11, b11, k11⟩
  obtain ⟨W12, hst12, N12, M12, b12, s12⟩ := got_new N11 0 0 0 0 none none Mg.zero
  have HB11 := Lib.hid (HB10.out.trans b11)
  have HB12 := Lib.hid (HB11.out.trans (b12.mono HB11.out.size))
  have M9 := (HM9.out.keepT k11).below b12
  have M10 := (HM10.out.keepT k11).below b12
  have c1 := M9.cells.1.2.2.2.2.1
  have c2 := M10.cells.1.2.2.2.2.1
  rw [HI2.out] at c1
  rw [HI1.out] at c2
  unfold mgV at hst12
  have HST12 := Lib.hid hst12
  clear HX10 HST10 HB10 HM9 HM10 N11 b11 k11 hst12 N12 M12 b12 s12 M9 M10
  unfold mgV
  go_wp2_with (first | (refine wpList_store_run HST12.out rfl rfl rfl rfl ?_))
  go_ret
  exact ⟨rfl, HB12.out⟩
end Go.Proofs.Ytfijidaohlnphaa
