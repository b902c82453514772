/- SlotApart: two records whose data are at most 488 bytes have the same bytes just where they are the same; no condition on the input (the two tables start as the program's text lays them). -/
import Derived.Test.YtlihphmhgnfgpaaDoorSlotArgs
import Derived.Test.YtlihphmhgnfgpaaDoorCards
import Derived.Test.YtlihphmhgnfgpaaDoorTie
import Derived.ProofKit
import Derived.OpenShut
import Derived.ShutString
import Derived.ChangeOld
import Derived.Deep.DeepHandedRow
import Derived.Lib.LaidTab
import Derived.Stop.LaidErr
namespace Go.Proofs.YtlihphmhgnfgpaaDoor.slotApart
open Go.ChangeShapes Go.WideShapes Go.ChangeAt Go.RowKit
open Go.ChangeMaps (open_string shut_string)
set_option linter.unusedVariables false
set_option maxRecDepth 100000
set_option maxHeartbeats 4000000 in
theorem walk (v0 : Value) (a : Rc) (v1 : Value) (b : Rc) (w : World) (w0 : v0 = recV a ∧ a.Fits) (w1 : v1 = recV b ∧ b.Fits) (hT : Tabs w) :
    Calls Tryd.prog 6 #[v0, v1] w fun e w' => e = .returned (.bool true) ∧ Below w.heap.size w w' := by
  obtain ⟨rfl, fa⟩ := w0
  obtain ⟨rfl, fb⟩ := w1
  have n0 := RecB.new w a
  have b0 := (Below.refl _ w).alloc (Nat.le_refl _) (.cells #[.int .i64 a.kind, .int .i64 a.index, .int .i64 a.term, .string a.data] 23)
  have b1 := b0.alloc b0.size (.cells #[.int .i64 b.kind, .int .i64 b.index, .int .i64 b.term, .string b.data] 23)
  have R0 := n0.below ((Below.refl _ _).alloc (Nat.le_refl _) (.cells #[.int .i64 b.kind, .int .i64 b.index, .int .i64 b.term, .string b.data] 23))
  have R1 := RecB.new (w.alloc (.cells #[.int .i64 a.kind, .int .i64 a.index, .int .i64 a.term, .string a.data] 23)) b
  rw [World.size_alloc] at R1
  have HH := Lib.hid (head4_any _ (hT.below b1))
  have HPA := Lib.hid (fun (W : World) (hW : Tabs W) => put_any a W hW)
  have HPB := Lib.hid (fun (W : World) (hW : Tabs W) => put_any b W hW)
  have HT := Lib.hid hT
  have ma := fa.data
  have mb := fb.data
  unfold maxLen at ma mb
  obtain ⟨BQ, hBQ⟩ : ∃ BQ : Bool, BQ = true ↔ a = b := ⟨@decide (a = b) (Classical.propDecidable _), by simp⟩
  have heq := eq_rec a b BQ hBQ
  unfold recV at *
  clear hT n0 b0
  by_cases ha : 488 < a.data.size
  · have ea : decide ((488 : Int) < (a.data.size : Int)) = true := by simp; omega
    clear heq
    go_enter Tryd.func6, Tryd.ntmps6
    go_wp2_with fail
    refine HH.out.mono ?_
    rintro e w1 ⟨rfl, hb1⟩
    obtain ⟨⟨c0, c1, c2, c3⟩, _⟩ := (R0.below hb1).cells
    obtain ⟨⟨d0, d1, d2, d3⟩, _⟩ := (R1.below hb1).cells
    go_wp2_with fail
    go_ret
    exact ⟨by simp, b1.trans (hb1.mono b1.size)⟩
  · have ea : decide ((488 : Int) < (a.data.size : Int)) = false := by simp; omega
    by_cases hb : 488 < b.data.size
    · have eb : decide ((488 : Int) < (b.data.size : Int)) = true := by simp; omega
      clear heq
      go_enter Tryd.func6, Tryd.ntmps6
      go_wp2_with fail
      refine HH.out.mono ?_
      rintro e w1 ⟨rfl, hb1⟩
      obtain ⟨⟨c0, c1, c2, c3⟩, _⟩ := (R0.below hb1).cells
      obtain ⟨⟨d0, d1, d2, d3⟩, _⟩ := (R1.below hb1).cells
      go_wp2_with fail
      go_ret
      exact ⟨by simp, b1.trans (hb1.mono b1.size)⟩
    · have eb : decide ((488 : Int) < (b.data.size : Int)) = false := by simp; omega
      have HX : Hid ((a.put.2 ≠ 0 ∨ b.put.2 ≠ 0) ∨ (a.put.2 = 0 ∧ b.put.2 = 0 ∧ (a.put.1.toList == b.put.1.toList) = BQ)) := by
        show (a.put.2 ≠ 0 ∨ b.put.2 ≠ 0) ∨ (a.put.2 = 0 ∧ b.put.2 = 0 ∧ (a.put.1.toList == b.put.1.toList) = BQ)
        by_cases h1 : a.put.2 = 0
        · by_cases h2 : b.put.2 = 0
          · refine .inr ⟨h1, h2, ?_⟩
            have o1 := put_zero h1
            have o2 := put_zero h2
            rw [put_ok o1, put_ok o2]
            exact str_eq a.bytes b.bytes BQ (hBQ.trans ⟨fun e => by rw [e], fun e => bytes_inj o1 o2 e⟩)
          · exact .inl (.inr h2)
        · exact .inl (.inl h1)
      clear ha hb
      generalize a.put.1 = x at *
      generalize a.put.2 = m at *
      generalize b.put.1 = y at *
      generalize b.put.2 = n at *
      go_enter Tryd.func6, Tryd.ntmps6
      go_wp2_with fail
      refine HH.out.mono ?_
      rintro e w1 ⟨rfl, hb1⟩
      have S0 := R0.below hb1
      have S1 := R1.below hb1
      have B1 := b1.trans (hb1.mono b1.size)
      obtain ⟨⟨c0, c1, c2, c3⟩, _⟩ := S0.cells
      obtain ⟨⟨d0, d1, d2, d3⟩, _⟩ := S1.cells
      go_wp2_with fail
      refine (HPA.out _ (HT.out.below B1)).mono ?_
      rintro e w2 ⟨rfl, hb2⟩
      have B2 := B1.trans (hb2.mono B1.size)
      obtain ⟨⟨c0, c1, c2, c3⟩, _⟩ := (S0.below hb2).cells
      obtain ⟨⟨d0, d1, d2, d3⟩, _⟩ := (S1.below hb2).cells
      go_wp2_with fail
      refine (HPB.out _ (HT.out.below B2)).mono ?_
      rintro e w3 ⟨rfl, hb3⟩
      have B3 := B2.trans (hb3.mono B2.size)
      obtain ⟨⟨c0, c1, c2, c3⟩, _⟩ := ((S0.below hb2).below hb3).cells
      obtain ⟨⟨d0, d1, d2, d3⟩, _⟩ := ((S1.below hb2).below hb3).cells
      rcases HX.out with (hm | hn) | ⟨h1, h2, h3⟩
      · have em : (m == 0) = false := by simpa using hm
        go_wp2_with fail
        go_ret
        exact ⟨by simp, B3⟩
      · have en : (n == 0) = false := by simpa using hn
        by_cases hm : m = 0
        · subst hm
          go_wp2_with fail
          go_ret
          exact ⟨by simp, B3⟩
        · have em : (m == 0) = false := by simpa using hm
          go_wp2_with fail
          go_ret
          exact ⟨by simp, B3⟩
      · subst h1 h2
        go_wp2_with fail
        go_ret
        exact ⟨by simp, B3⟩

theorem own : ownKnob Tryd.prog.godebug = none := by kernel_rfl
theorem laidOut : laidOutB Tryd.prog = true := by kernel_rfl
theorem gHi : Tryd.prog.globalNamed "orchard/sum.highTable" = some 0 := by kernel_rfl
theorem gLo : Tryd.prog.globalNamed "orchard/sum.lowTable" = some 1 := by kernel_rfl
theorem gHiType : (Tryd.prog.globals[0]?).map (·.type) = some 108 := by kernel_rfl
theorem gLoType : (Tryd.prog.globals[1]?).map (·.type) = some 108 := by kernel_rfl
theorem cellsTab : Tryd.prog.cellsOf 108 = 16 := by kernel_rfl
theorem cellsSum : Tryd.prog.cellsOf 66 = 1 := by kernel_rfl

theorem table_lo {W : World} (h : laidMetH Tryd.prog Rows.slotApartRow.laid W) : Lib.TabIs Tryd.prog W "orchard/sum.lowTable" .u32 LO :=
  Lib.tabIs_of_head (rest := [("orchard/sum.highTable", Rows.laid_orchard_sum_highTable)]) gLo gLoType Tryd.underlying108 Tryd.underlying66 cellsSum cellsTab h
theorem table_hi {W : World} (h : laidMetH Tryd.prog Rows.slotApartRow.laid W) : Lib.TabIs Tryd.prog W "orchard/sum.highTable" .u32 HI :=
  Lib.tabIs_of_head (rest := []) gHi gHiType Tryd.underlying108 Tryd.underlying66 cellsSum cellsTab (laidMet.tail (show laidMet Tryd.prog [("orchard/sum.lowTable", Rows.laid_orchard_sum_lowTable), ("orchard/sum.highTable", Rows.laid_orchard_sum_highTable)] W from h))
theorem tabs_of {W : World} (h : laidMetH Tryd.prog Rows.slotApartRow.laid W) : Tabs W := by
  have c0 := fun (j : Nat) (hj : j < 16) => (table_hi h).cell gHi j hj
  have c1 := fun (j : Nat) (hj : j < 16) => (table_lo h).cell gLo j hj
  refine ⟨⟨World.block_lt_of_cell? W _ (c0 0 (by decide)), World.block_lt_of_cell? W _ (c1 0 (by decide))⟩, fun j hj => ?_, fun j hj => ?_⟩
  · rw [c0 j hj, hi_cast j]
  · rw [c1 j hj, lo_cast j]

theorem contract (H : Type) (enc : TypeId × Value → H) (W : World) (base : Nat) (args : Array Value) (ds gs : List (DataW H)) (before : List MemPlace)
    (hval : ∀ (j : Nat) t v, Tryd.f6.params[j]? = some t → args[j]? = some v → Value.okWide Tryd.prog W .any base t v)
    (hW : DataW.Whole enc Tryd.prog Tryd.f6.params.toList Rows.slotApartSpec.vars false W args.toList ds gs before) (hL : laidMetH Tryd.prog Rows.slotApartRow.laid W) :
    Calls Tryd.prog 6 args W fun e W' => ∃ v, e = .returned v ∧ Rows.slotApartSpec.post enc Tryd.prog Tryd.f6 false true false false W args v W' := by
  have hT := tabs_of hL
  have hW' := hW
  obtain ⟨p, q, hA0, hV, rfl, hfz, hnd⟩ := hW
  have hA : DataW.TrodAll enc Tryd.prog W 0 (fun _ => true) true Tryd.f6.params.toList args.toList ds p := hA0
  rw [Tryd.params6] at hA hval
  obtain ⟨v0, vs0, d0, ds0, p0, q0, hargs, rfl, rfl, h0, r0⟩ := trodAll_cons hA
  obtain ⟨v1, vs1, d1, ds1, p1, q1, rfl, rfl, rfl, h1, r1⟩ := trodAll_cons r0
  obtain ⟨rfl, rfl, rfl⟩ := trodAll_nil r1
  obtain rfl : args = #[v0, v1] := by cases args; simp_all
  obtain ⟨rfl, rfl⟩ := trodVars_none hV
  have k0 := h0
  have lt0 : ∀ x ∈ p0, x.block < W.heap.size := by obtain ⟨m, hm⟩ := k0; exact DataW.trod_lt m _ _ _ hm
  obtain ⟨z0, w0⟩ := rec_of (hval 0 23 v0 rfl rfl) h0
  have k1 := h1
  have lt1 : ∀ x ∈ p1, x.block < W.heap.size := by obtain ⟨m, hm⟩ := k1; exact DataW.trod_lt m _ _ _ hm
  obtain ⟨z1, w1⟩ := rec_of (hval 1 23 v1 rfl rfl) h1
  clear hA0
  refine (walk v0 z0 v1 z1 W w0 w1 hT).mono fun e W' ⟨he, bel⟩ => ?_
  subst he
  exact ⟨_, rfl, _, _, _, [], _, [], hW', trodAll_mk1 (shut_bool Tryd.underlying4 _), (trodAll_cons_mk (Below.trod laidOut (by kernel_rfl) (of_decide_eq_true (by kernel_rfl)) k0 bel lt0) (trodAll_cons_mk (Below.trod laidOut (by kernel_rfl) (of_decide_eq_true (by kernel_rfl)) k1 bel lt1) trodAll_mk0)), rfl, bel.frame _, fun h => by cases h⟩

def setTab (l : List Int) : Obj → Obj
  | .cells _ t frozen => .cells (l.map (Value.int .u32)).toArray t frozen
  | o => o
noncomputable def laidWorld (os : Os) : World :=
  { World.holding Tryd.prog os ⟨#[], #[], []⟩ with heap := ((World.holding Tryd.prog os ⟨#[], #[], []⟩).heap.modify 1 (setTab LO)).modify 0 (setTab HI) }
theorem laid_met (os : Os) : laidMet Tryd.prog Rows.slotApartRow.laid ((laidWorld os).forCall (fun _ _ => 0) ⟨#[], #[.agg #[.int .i64 0, .int .i64 0, .int .i64 0, .string ByteArray.empty], .agg #[.int .i64 0, .int .i64 0, .int .i64 0, .string ByteArray.empty]], []⟩).memory :=
  laidMet_of_run' 8 (by kernel_rfl) (by kernel_rfl)
theorem reads (os : Os) {H : Type} (enc : TypeId × Value → H) : ∃ places, DataW.whole enc Tryd.prog ((laidWorld os).forCall (fun _ _ => 0) ⟨#[], #[.agg #[.int .i64 0, .int .i64 0, .int .i64 0, .string ByteArray.empty], .agg #[.int .i64 0, .int .i64 0, .int .i64 0, .string ByteArray.empty]], []⟩).memory Tryd.f6.params.toList Rows.slotApartSpec.vars false #[Value.agg #[.int .i64 0, .int .i64 0, .int .i64 0, .string ByteArray.empty], Value.agg #[.int .i64 0, .int .i64 0, .int .i64 0, .string ByteArray.empty]].toList 8 = some ([.agg [.lit (.int .i64 0), .lit (.int .i64 0), .lit (.int .i64 0), .lit (.string [])], .agg [.lit (.int .i64 0), .lit (.int .i64 0), .lit (.int .i64 0), .lit (.string [])]], [], places) :=
  ⟨[], by kernel_rfl⟩

set_option maxRecDepth 100000 in
theorem lifted (os : Os) (started : os.Started) (H : Type) (enc : TypeId × Value → H) (F : Stop.Interp) :
    ReturnsInHanded {} Tryd.checked os 6 .any ((OpenSpec.ofChange Rows.slotApartSpec).preRow enc Tryd.prog Tryd.f6 Rows.slotApartRow.domain false Rows.slotApartRow.laid) (((OpenSpec.ofChange Rows.slotApartSpec).at F).post enc Tryd.prog Tryd.f6 false true false false) := by
  obtain ⟨places, hx⟩ := reads os enc
  refine returnsInHanded_of_row (C := Tryd.checked) (s := OpenSpec.ofChange Rows.slotApartSpec) own started (by kernel_rfl) Tryd.func6
    (witness_row_at (enc := enc) (C := Tryd.checked) false (laidWorld os) #[.agg #[.int .i64 0, .int .i64 0, .int .i64 0, .string ByteArray.empty], .agg #[.int .i64 0, .int .i64 0, .int .i64 0, .string ByteArray.empty]] rfl (by kernel_rfl) (by kernel_rfl) (by kernel_rfl)
      (OpenSpec.preRow_of_cond 8 hx (by kernel_rfl) (fun k hk => by cases hk) (by kernel_rfl) (laid_met os))) ?_
  intro W base args ds gs before hval hW _ _ _ hL _ _
  exact contract H enc W base args ds gs before hval hW hL

theorem said : Rows.SlotApartSaid :=
  OpenClaim.holds_of_cond 6 Tryd.f6 rfl rfl rfl rfl rfl rfl rfl ⟨rfl, rfl, rfl, rfl, rfl⟩ rfl rfl rfl rfl rfl (by kernel_rfl) Tryd.func6 (by kernel_rfl)
    (of_decide_eq_true (by kernel_rfl)) (by unfold Func.isWrapper; first | (rw [if_pos (by decide +kernel)]; kernel_rfl) | (rw [if_neg (by decide +kernel)]; exact ⟨rfl, rfl⟩))
    (fun os started H enc _ F => by rw [OpenClaim.pre_eq_preRow]; exact lifted os started H enc F)

theorem plain (f : FuncId) (fn : Func) (hf : Tryd.pinned.checked.prog.funcNamed "orchard/orchardlaw04.SlotApart" = some f) (hfn : Tryd.pinned.checked.prog.funcs[f]? = some fn) :
    false = Tryd.pinned.checked.prog.looks [] ∧ ∀ (j : Nat) t, fn.params[j]? = some t → Tryd.pinned.checked.prog.wantsStandIn t = false := by
  obtain rfl : f = 6 := Option.some.inj ((show Tryd.prog.funcNamed "orchard/orchardlaw04.SlotApart" = some 6 by kernel_rfl).symm.trans hf) |>.symm
  obtain rfl : fn = Tryd.f6 := (Option.some.inj (Tryd.func6.symm.trans hfn)).symm
  refine ⟨by kernel_rfl, fun j t ht => ?_⟩
  rw [Tryd.params6] at ht
  have hm := Array.mem_of_getElem? ht
  simp at hm
  subst hm
  exact (show Tryd.prog.wantsStandIn 23 = false by kernel_rfl)

theorem card : Rows.SlotApartCardSaid :=
  Claim7.holds_tied_plain_at .later [] _ _ _ _ said (fun _ h => by cases h) (by kernel_rfl) (fun _ h => by cases h) slotApart_row_tie rfl ⟨rfl, rfl⟩ (by kernel_rfl) rfl plain (by kernel_rfl)
end Go.Proofs.YtlihphmhgnfgpaaDoor.slotApart
