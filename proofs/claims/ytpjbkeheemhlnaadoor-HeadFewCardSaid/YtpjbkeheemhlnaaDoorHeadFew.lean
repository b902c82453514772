/- HeadFew: devices with fewer than two blocks, or without power, tell so: Open answers ErrNone or ErrDown, Put and Scrub ErrDown, and the head stays; no condition on the input (the two tables start as the program text lays them). -/
import Derived.Test.YtpjbkeheemhlnaaDoorHeadW
import Derived.Test.YtpjbkeheemhlnaaDoorCards
import Derived.Test.YtpjbkeheemhlnaaDoorTie
import Derived.ProofKit
import Derived.OpenShut
import Derived.ShutString
import Derived.ChangeOld
import Derived.Deep.DeepHandedRow
import Derived.Lib.LaidTab
import Derived.Stop.LaidErr
namespace Go.Proofs.YtpjbkeheemhlnaaDoor.headFew
open Go.ChangeShapes Go.WideShapes Go.ChangeAt Go.RowKit
open Go.ChangeMaps (open_string shut_string)
set_option linter.unusedVariables false
set_option maxRecDepth 100000
theorem few_open (k : Nat) (hk : k < 2) : (Dv.new (k : Int)).hopen = (rc0, 7) := by
  obtain rfl | rfl : k = 0 ∨ k = 1 := by omega
  · show (Dv.new 0).hopen = _
    have e : (Dv.new 0).sread 0 = (rc0, 0, 7) := sread_out 0 rfl rfl
    exact (hopen_e0 (by rw [e]; decide)).trans (by rw [e])
  · show (Dv.new 1).hopen = _
    have e0 : (Dv.new 1).sread 0 = (rc0, 0, 0) := by
      show (Dv.new ((1 : Nat) : Int)).sread 0 = _
      rw [DB_new 1 0 (by decide) (by decide)]
      exact DB_read 1 0 0 blk0 (by decide) rfl
    have e : (Dv.new 1).sread 1 = (rc0, 0, 7) := sread_out 1 rfl rfl
    exact (hopen_e1 (by rw [e0]) (by rw [e]; decide)).trans (by rw [e])
theorem eq_hd (a : Hd) (W : World) : (binOp .eql 23 (.agg #[.int .i64 a.term, .int .i64 a.vote, .int .i64 a.first, .int .i64 a.base]) (.agg #[.int .i64 a.term, .int .i64 a.vote, .int .i64 a.first, .int .i64 a.base])).run Tryd.prog W = .ok (.bool true) W := by
  simp [go_sem]

set_option maxHeartbeats 4000000 in
theorem walk (v0 : Value) (h : Hd) (x1 : Int) (w : World) (w0 : v0 = headV h ∧ h.Fits) (w1 : (Lit.int .i64 x1).wf = true) (hT : Tabs w) :
    Calls Tryd.prog 3 #[v0, .int .i64 x1] w fun e w' => e = .returned (.bool true) ∧ Below w.heap.size w w' := by
  obtain ⟨rfl, fh⟩ := w0
  have n0 := HdB.new w h
  have b0 := (Below.refl _ w).alloc (Nat.le_refl _) (.cells #[.int .i64 h.term, .int .i64 h.vote, .int .i64 h.first, .int .i64 h.base] 23)
  have HB := Lib.hid (begin_any _ (hT.below b0))
  have HT := Lib.hid hT
  have HTb := Lib.hid (fun (W x : World) (h : Below w.heap.size w W) (k : Below w.heap.size W x) => hT.below (h.trans k))
  have hand := i64_and3
  obtain ⟨k, hkx⟩ := Int.eq_ofNat_of_zero_le (Int.emod_nonneg x1 (show (4 : Int) ≠ 0 by decide))
  have hk : k < 4 := by have := Int.emod_lt_of_pos x1 (show (0 : Int) < 4 by decide); omega
  clear hT fh w1
  by_cases ho : h.Ok
  · have HR := Lib.hid (fun (W : World) => right_any h W true (by simpa using ho))
    by_cases hk2 : k < 2
    · have e1 : decide ((k : Int) < 2) = true := by simp; omega
      have HF := Lib.hid (few_open k hk2)
      unfold headV at *
      clear ho
      go_enter Tryd.func3, Tryd.ntmps3
      go_wp2_with fail
      refine HB.out.mono ?_
      rintro e w1 ⟨rfl, hb⟩
      have N1 := n0.below hb
      have B1 := b0.trans (hb.mono b0.size)
      obtain ⟨⟨c0, c1, c2, c3⟩, _⟩ := N1.cells
      clear hb n0 b0 HB
      go_wp2_with fail
      refine (HR.out _).mono ?_
      rintro e w2 ⟨rfl, hb⟩
      have B2 := B1.trans (hb.mono B1.size)
      clear hb N1 c0 c1 c2 c3 B1
      go_wp2_with fail
      refine (new_any k w2).mono ?_
      rintro e w3 ⟨B, rfl, hd, hb⟩
      have X3 : DevW w.heap.size (fun _ => False) w3 B (Dv.new k) := devw_new hd B2.size (fun j hj => hj.elim) hb.size
      have B3 := B2.trans (hb.mono B2.size)
      clear hd hb B2
      go_wp2_with fail
      refine (hw_fail rc0 7 X3 (HT.out.below B3) (Nat.zero_le _) HF.out (by decide)).mono ?_
      rintro e w4 ⟨rfl, X4, hb⟩
      have B4 := B3.trans (hb.mono B3.size)
      clear hb X3 X4 B3
      go_wp2_with fail
      go_ret
      exact ⟨rfl, B4⟩
    · have e1 : decide ((k : Int) < 2) = false := by simp; omega
      obtain ⟨m, hm⟩ : ∃ m, k = m + 2 := ⟨k - 2, by omega⟩
      have H0 := Lib.hid (show Dv.new (k : Int) = P2 blk0 blk0 m from by rw [hm]; exact P2_new m (by omega))
      clear hm
      have HR1 := Lib.hid (show (copyR h 1).Ok from copy_ok ho (by decide))
      have H2 := Lib.hid (show (P2 blk0 blk0 m).two 0 (copyR h (rc0.index + 1)) = (0, P2 (good (copyR h 1)) (good (copyR h 1)) m) from Dx_two0 HR1.out)
      have H3 := Lib.hid (show (P2 (good (copyR h 1)) (good (copyR h 1)) m).fall 0 = Dx (good (copyR h 1)) (good (copyR h 1)) m 0 true 0 false from Dx_fall 0)
      have HR2 := Lib.hid (show (copyR hd1 2).Ok from copy_ok hd1_ok (by decide))
      have H4 := Lib.hid (show (Dx (good (copyR h 1)) (good (copyR h 1)) m 0 true 0 false).two 0 (copyR hd1 ((copyR h 1).index + 1)) = (5, Dx (good (copyR h 1)) (good (copyR h 1)) m 0 true 0 true) from by
        show (Dx (good (copyR h 1)) (good (copyR h 1)) m 0 true 0 false).two 0 (copyR hd1 2) = _
        rw [two_stop (by rw [one_stop (by rw [Dx_wz 0 HR2.out]; exact five_ne), Dx_wz 0 HR2.out]; exact five_ne), one_stop (by rw [Dx_wz 0 HR2.out]; exact five_ne), Dx_wz 0 HR2.out])
      have H5 := Lib.hid (show (Dx (good (copyR h 1)) (good (copyR h 1)) m 0 true 0 true).hopen = (rc0, 5) from Dx_opend)
      have H6 := Lib.hid (show (Dx (good (copyR h 1)) (good (copyR h 1)) m 0 true 0 true).scrub (copyR h 1) = (5, Dx (good (copyR h 1)) (good (copyR h 1)) m 0 true 0 true, copyR h 1) from by
        rw [scrub_e0 (by rw [Dx_down]; exact five_ne), Dx_down])
      have HL := Lib.hid (headL_copy ho 1)
      have HO := Lib.hid ho
      have heq := eq_hd h
      unfold headV at *
      clear ho
      go_enter Tryd.func3, Tryd.ntmps3
      go_wp2_with fail
      refine HB.out.mono ?_
      rintro e w1 ⟨rfl, hb⟩
      have N1 := n0.below hb
      have B1 := b0.trans (hb.mono b0.size)
      obtain ⟨⟨c0, c1, c2, c3⟩, _⟩ := N1.cells
      clear hb n0 b0 HB
      go_wp2_with fail
      refine (HR.out _).mono ?_
      rintro e w2 ⟨rfl, hb⟩
      have N2 := N1.below hb
      have B2 := B1.trans (hb.mono B1.size)
      clear hb N1 c0 c1 c2 c3 B1
      go_wp2_with fail
      refine (new_any _ w2).mono ?_
      rintro e w3 ⟨B, rfl, hd, hb⟩
      rw [H0.out] at hd
      have X3 : DevW w.heap.size (fun j => j = w.heap.size) w3 B (P2 blk0 blk0 m) := devw_new hd B2.size (fun j hj => by rw [hj]; exact N2.lt) hb.size
      have N3 := N2.below hb
      have B3 := B2.trans (hb.mono B2.size)
      clear hd hb B2 N2
      go_wp2_with fail
      refine (hw_open rc0 X3 (HT.out.below B3) (Nat.zero_le _) B3.size (P2_fresh m)).mono ?_
      rintro e w4 ⟨sb, rfl, S4, hsb, X4, hb⟩
      have hnb := Nat.le_trans B3.size hsb
      have hne : w.heap.size ≠ sb := Nat.ne_of_lt (Nat.lt_of_lt_of_le N3.lt hsb)
      have N4 := N3.below hb
      have B4 := B3.trans (hb.mono B3.size)
      obtain ⟨⟨c0, c1, c2, c3⟩, _⟩ := N4.cells
      clear hb X3 hsb N3 B3
      go_wp2_with fail
      refine (hw_put sb rc0 h 0 _ X4 S4 (.inr rfl) B4.size hnb (fun x k => HTb.out _ x B4 k) (by exact Nat.zero_le _) HO.out (by decide) H2.out).mono ?_
      rintro e w5 ⟨rfl, X5, hb, S5, hk⟩
      rw [lastL_zero rfl] at S5
      have S5 : StB w5 sb B (copyR h 1) := S5
      have N5 := N4.keep hk ⟨.inl rfl, hne⟩
      have B5 := B4.trans hb
      clear hb hk S4 X4 B4 N4 c0 c1 c2 c3
      go_wp2_with fail
      refine (devw_fall 0 (by decide) B5.size X5).mono ?_
      rintro e w6 ⟨rfl, X6, hb, hk⟩
      rw [H3.out] at X6
      have S6 := S5.keep hk (.inr rfl)
      have N6 := N5.keep hk (.inl rfl)
      have B6 := B5.trans hb
      clear hb hk S5 X5 B5 N5
      go_wp2_with fail
      refine (hw_put sb (copyR h 1) hd1 5 _ X6 S6 (.inr rfl) B6.size hnb (fun x k => HTb.out _ x B6 k) (by exact Nat.zero_le _) hd1_ok (show (-1 : Int) ≤ 1 ∧ (1 : Int) ≤ 281474976710654 by decide) H4.out).mono ?_
      rintro e w7 ⟨rfl, X7, hb, S7, hk⟩
      rw [lastL_not five_ne] at S7
      have N7 := N6.keep hk ⟨.inl rfl, hne⟩
      have B7 := B6.trans hb
      clear hb hk S6 X6 B6 N6
      go_wp2_with fail
      refine (hw_fail rc0 5 X7 (HT.out.below B7) (Nat.zero_le _) H5.out five_ne).mono ?_
      rintro e w8 ⟨rfl, X8, hb⟩
      have S8 := S7.below hb
      have N8 := N7.below hb
      have B8 := B7.trans (hb.mono B7.size)
      obtain ⟨⟨c0, c1, c2, c3⟩, _⟩ := N8.cells
      have HH8 := Lib.hid (head_says sb B (copyR h 1) h w8.drew S8 HL.out (by rw [copy_size]; decide))
      have X8d := X8.drew
      have S8d : StB w8.drew sb B (copyR h 1) := S8
      have N8d : HdB w8.drew w.heap.size h := N8
      have B8d := B8.drew
      clear hb S7 X7 B7 N7
      unfold headV at HH8
      go_wp2_with fail
      go_region_held3 (fun w' => w'.cell? ⟨w.heap.size, 0, none⟩ = some (.int .i64 h.term) ∧ w'.cell? ⟨w.heap.size, 1, none⟩ = some (.int .i64 h.vote) ∧ w'.cell? ⟨w.heap.size, 2, none⟩ = some (.int .i64 h.first) ∧ w'.cell? ⟨w.heap.size, 3, none⟩ = some (.int .i64 h.base)) (first | (with_reducible assumption) | (refine ⟨?_, ?_, ?_, ?_⟩ <;> with_reducible assumption) | go_keep)
        (first
          | (go_at_call 21; refine HH8.out.mono ?_; rintro e w9 ⟨rfl, hb9⟩; have X9 := X8d.below hb9; have S9 := S8d.below hb9; have N9 := N8d.below hb9; have B9 := B8d.trans (hb9.mono B8d.size); obtain ⟨⟨q0, q1, q2, q3⟩, _⟩ := N9.cells)
          | (go_at_call 22; refine (hw_scrub sb (copyR h 1) 5 _ _ X9 S9 (.inr rfl) B9.size hnb (fun x k => HTb.out _ x B9 k) (by exact Nat.zero_le _) (.inr (by rw [HL.out]; exact HO.out)) (show (-1 : Int) ≤ 1 ∧ (1 : Int) ≤ 281474976710654 by decide) (by rw [copy_size]; decide) H6.out).mono ?_; rintro e w10 ⟨rfl, X10, hb10, S10, hk10⟩; have N10 := N9.keep hk10 ⟨.inl rfl, hne⟩; have B10 := B9.trans hb10; obtain ⟨⟨r0, r1, r2, r3⟩, _⟩ := N10.cells))
      all_goals
        go_wp2_with fail
        go_ret
        exact ⟨rfl, B10⟩
  · have HR := Lib.hid (fun (W : World) => right_any h W false (by simpa using ho))
    unfold headV at *
    clear ho
    go_enter Tryd.func3, Tryd.ntmps3
    go_wp2_with fail
    refine HB.out.mono ?_
    rintro e w1 ⟨rfl, hb⟩
    have N1 := n0.below hb
    have B1 := b0.trans (hb.mono b0.size)
    obtain ⟨⟨c0, c1, c2, c3⟩, _⟩ := N1.cells
    clear hb n0 b0 HB
    go_wp2_with fail
    refine (HR.out _).mono ?_
    rintro e w2 ⟨rfl, hb⟩
    have B2 := B1.trans (hb.mono B1.size)
    go_wp2_with fail
    go_ret
    exact ⟨rfl, B2⟩

theorem own : ownKnob Tryd.prog.godebug = none := by kernel_rfl
theorem laidOut : laidOutB Tryd.prog = true := by kernel_rfl
theorem gHi : Tryd.prog.globalNamed "orchard/sum.highTable" = some 0 := by kernel_rfl
theorem gLo : Tryd.prog.globalNamed "orchard/sum.lowTable" = some 1 := by kernel_rfl
theorem gHiType : (Tryd.prog.globals[0]?).map (·.type) = some 165 := by kernel_rfl
theorem gLoType : (Tryd.prog.globals[1]?).map (·.type) = some 165 := by kernel_rfl
theorem cellsTab : Tryd.prog.cellsOf 165 = 16 := by kernel_rfl
theorem cellsSum : Tryd.prog.cellsOf 158 = 1 := by kernel_rfl

theorem table_lo {W : World} (h : laidMetH Tryd.prog Rows.headFewRow.laid W) : Lib.TabIs Tryd.prog W "orchard/sum.lowTable" .u32 LO :=
  Lib.tabIs_of_head (rest := [("orchard/sum.highTable", Rows.laid_orchard_sum_highTable)]) gLo gLoType Tryd.underlying165 Tryd.underlying158 cellsSum cellsTab h
theorem table_hi {W : World} (h : laidMetH Tryd.prog Rows.headFewRow.laid W) : Lib.TabIs Tryd.prog W "orchard/sum.highTable" .u32 HI :=
  Lib.tabIs_of_head (rest := []) gHi gHiType Tryd.underlying165 Tryd.underlying158 cellsSum cellsTab (laidMet.tail (show laidMet Tryd.prog [("orchard/sum.lowTable", Rows.laid_orchard_sum_lowTable), ("orchard/sum.highTable", Rows.laid_orchard_sum_highTable)] W from h))
theorem tabs_of {W : World} (h : laidMetH Tryd.prog Rows.headFewRow.laid W) : Tabs W := by
  have c0 := fun (j : Nat) (hj : j < 16) => (table_hi h).cell gHi j hj
  have c1 := fun (j : Nat) (hj : j < 16) => (table_lo h).cell gLo j hj
  refine ⟨⟨World.block_lt_of_cell? W _ (c0 0 (by decide)), World.block_lt_of_cell? W _ (c1 0 (by decide))⟩, fun j hj => ?_, fun j hj => ?_⟩
  · rw [c0 j hj, hi_cast j]
  · rw [c1 j hj, lo_cast j]

theorem contract (H : Type) (enc : TypeId × Value → H) (W : World) (base : Nat) (args : Array Value) (ds gs : List (DataW H)) (before : List MemPlace)
    (hval : ∀ (j : Nat) t v, Tryd.f3.params[j]? = some t → args[j]? = some v → Value.okWide Tryd.prog W .any base t v)
    (hW : DataW.Whole enc Tryd.prog Tryd.f3.params.toList Rows.headFewSpec.vars false W args.toList ds gs before) (hL : laidMetH Tryd.prog Rows.headFewRow.laid W) :
    Calls Tryd.prog 3 args W fun e W' => ∃ v, e = .returned v ∧ Rows.headFewSpec.post enc Tryd.prog Tryd.f3 false true false false W args v W' := by
  have hT := tabs_of hL
  have hW' := hW
  obtain ⟨p, q, hA0, hV, rfl, hfz, hnd⟩ := hW
  have hA : DataW.TrodAll enc Tryd.prog W 0 (fun _ => true) true Tryd.f3.params.toList args.toList ds p := hA0
  rw [Tryd.params3] at hA hval
  obtain ⟨v0, vs0, d0, ds0, p0, q0, hargs, rfl, rfl, h0, r0⟩ := trodAll_cons hA
  obtain ⟨v1, vs1, d1, ds1, p1, q1, rfl, rfl, rfl, h1, r1⟩ := trodAll_cons r0
  obtain ⟨rfl, rfl, rfl⟩ := trodAll_nil r1
  obtain rfl : args = #[v0, v1] := by cases args; simp_all
  obtain ⟨rfl, rfl⟩ := trodVars_none hV
  have k0 := h0
  have lt0 : ∀ x ∈ p0, x.block < W.heap.size := by obtain ⟨m, hm⟩ := k0; exact DataW.trod_lt m _ _ _ hm
  obtain ⟨z0, w0⟩ := hd_of (hval 0 23 v0 rfl rfl) h0
  obtain ⟨a1, rfl, rfl, rfl, w1⟩ := open_int Tryd.underlying3 (hval 1 3 v1 rfl rfl) h1
  clear hA0
  refine (walk v0 z0 a1 W w0 w1 hT).mono fun e W' ⟨he, bel⟩ => ?_
  subst he
  exact ⟨_, rfl, _, _, _, [], _, [], hW', trodAll_mk1 (shut_bool Tryd.underlying4 _), (trodAll_cons_mk (Below.trod laidOut (by kernel_rfl) (of_decide_eq_true (by kernel_rfl)) k0 bel lt0) (trodAll_cons_mk (shut_int Tryd.underlying3 w1) trodAll_mk0)), rfl, bel.frame _, fun h => by cases h⟩

def setTab (l : List Int) : Obj → Obj
  | .cells _ t frozen => .cells (l.map (Value.int .u32)).toArray t frozen
  | o => o
noncomputable def laidWorld (os : Os) : World :=
  { World.holding Tryd.prog os ⟨#[], #[], []⟩ with heap := ((World.holding Tryd.prog os ⟨#[], #[], []⟩).heap.modify 1 (setTab LO)).modify 0 (setTab HI) }
theorem laid_met (os : Os) : laidMet Tryd.prog Rows.headFewRow.laid ((laidWorld os).forCall (fun _ _ => 0) ⟨#[], #[.agg #[.int .i64 0, .int .i64 0, .int .i64 0, .int .i64 0], .int .i64 0], []⟩).memory :=
  laidMet_of_run' 8 (by kernel_rfl) (by kernel_rfl)
theorem reads (os : Os) {H : Type} (enc : TypeId × Value → H) : ∃ places, DataW.whole enc Tryd.prog ((laidWorld os).forCall (fun _ _ => 0) ⟨#[], #[.agg #[.int .i64 0, .int .i64 0, .int .i64 0, .int .i64 0], .int .i64 0], []⟩).memory Tryd.f3.params.toList Rows.headFewSpec.vars false #[Value.agg #[.int .i64 0, .int .i64 0, .int .i64 0, .int .i64 0], Value.int .i64 0].toList 8 = some ([.agg [.lit (.int .i64 0), .lit (.int .i64 0), .lit (.int .i64 0), .lit (.int .i64 0)], .lit (.int .i64 0)], [], places) :=
  ⟨[], by kernel_rfl⟩

set_option maxRecDepth 100000 in
theorem lifted (os : Os) (started : os.Started) (H : Type) (enc : TypeId × Value → H) (F : Stop.Interp) :
    ReturnsInHanded {} Tryd.checked os 3 .any ((OpenSpec.ofChange Rows.headFewSpec).preRow enc Tryd.prog Tryd.f3 Rows.headFewRow.domain false Rows.headFewRow.laid) (((OpenSpec.ofChange Rows.headFewSpec).at F).post enc Tryd.prog Tryd.f3 false true false false) := by
  obtain ⟨places, hx⟩ := reads os enc
  refine returnsInHanded_of_row (C := Tryd.checked) (s := OpenSpec.ofChange Rows.headFewSpec) own started (by kernel_rfl) Tryd.func3
    (witness_row_at (enc := enc) (C := Tryd.checked) false (laidWorld os) #[.agg #[.int .i64 0, .int .i64 0, .int .i64 0, .int .i64 0], .int .i64 0] rfl (by kernel_rfl) (by kernel_rfl) (by kernel_rfl)
      (OpenSpec.preRow_of_cond 8 hx (by kernel_rfl) (fun k hk => by cases hk) (by kernel_rfl) (laid_met os))) ?_
  intro W base args ds gs before hval hW _ _ _ hL _ _
  exact contract H enc W base args ds gs before hval hW hL

theorem said : Rows.HeadFewSaid :=
  OpenClaim.holds_of_cond 3 Tryd.f3 rfl rfl rfl rfl rfl rfl rfl ⟨rfl, rfl, rfl, rfl, rfl⟩ rfl rfl rfl rfl rfl (by kernel_rfl) Tryd.func3 (by kernel_rfl)
    (of_decide_eq_true (by kernel_rfl)) (by unfold Func.isWrapper; first | (rw [if_pos (by decide +kernel)]; kernel_rfl) | (rw [if_neg (by decide +kernel)]; exact ⟨rfl, rfl⟩))
    (fun os started H enc _ F => by rw [OpenClaim.pre_eq_preRow]; exact lifted os started H enc F)

theorem plain (f : FuncId) (fn : Func) (hf : Tryd.pinned.checked.prog.funcNamed "orchard/orchardlaw05.HeadFew" = some f) (hfn : Tryd.pinned.checked.prog.funcs[f]? = some fn) :
    false = Tryd.pinned.checked.prog.looks [] ∧ ∀ (j : Nat) t, fn.params[j]? = some t → Tryd.pinned.checked.prog.wantsStandIn t = false := by
  obtain rfl : f = 3 := Option.some.inj ((show Tryd.prog.funcNamed "orchard/orchardlaw05.HeadFew" = some 3 by kernel_rfl).symm.trans hf) |>.symm
  obtain rfl : fn = Tryd.f3 := (Option.some.inj (Tryd.func3.symm.trans hfn)).symm
  refine ⟨by kernel_rfl, fun j t ht => ?_⟩
  rw [Tryd.params3] at ht
  have hm := Array.mem_of_getElem? ht
  simp at hm
  rcases hm with rfl | rfl
  · exact (show Tryd.prog.wantsStandIn 23 = false by kernel_rfl)
  · exact (show Tryd.prog.wantsStandIn 3 = false by kernel_rfl)

theorem card : Rows.HeadFewCardSaid :=
  Claim7.holds_tied_plain_at .later [] _ _ _ _ said (fun _ h => by cases h) (by kernel_rfl) (fun _ h => by cases h) headFew_row_tie rfl ⟨rfl, rfl⟩ (by kernel_rfl) rfl plain (by kernel_rfl)
end Go.Proofs.YtpjbkeheemhlnaaDoor.headFew
