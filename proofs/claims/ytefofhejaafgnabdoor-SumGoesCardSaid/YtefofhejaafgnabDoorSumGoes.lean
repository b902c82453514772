/- SumGoes: a byte more changes the checksum of any text of at most 300 bytes, unlike of unlike bytes, and nothing added changes nothing; no condition on the input (the two tables start as the program's text lays them). -/
import Derived.Test.YtefofhejaafgnabDoorSumBytes
import Derived.Test.YtefofhejaafgnabDoorSumMath
import Derived.Test.YtefofhejaafgnabDoorCards
import Derived.Test.YtefofhejaafgnabDoorTie
import Derived.ProofKit
import Derived.OpenShut
import Derived.ShutString
import Derived.ChangeOld
import Derived.Deep.DeepHandedRow
import Derived.Lib.LaidTab
import Derived.Stop.LaidErr
namespace Go.Proofs.YtefofhejaafgnabDoor.sumGoes
open Go.ChangeShapes Go.WideShapes Go.ChangeAt Go.RowKit
open Go.ChangeMaps (open_string shut_string)
set_option linter.unusedVariables false

/-- A string of one byte, out of a slice that has just been made. -/
theorem run_str_u8 (W : World) (q : Nat) (hq : q < 256) :
    (convert 26 9 (.slice (some ⟨W.heap.size, 0, none⟩) 1 1)).run Tryd.prog (W.alloc (.cells #[.int .u8 (q : Int)] 5)) = .ok (.string ⟨#[UInt8.ofNat q]⟩) (W.alloc (.cells #[.int .u8 (q : Int)] 5)) := by
  have h := run_str (src_new W [UInt8.ofNat q] 1)
  rw [show (cellsOf [UInt8.ofNat q]).toArray = #[Value.int .u8 (q : Int)] by simp [cellsOf]; omega] at h
  exact h
theorem add_empty (r : Nat) (p : Option Addr) (cap : Nat) (w : World) (hr : r < 4294967296) (ht : Tabs w) :
    Calls Tryd.prog 6 #[.int .u32 r, .slice p 0 cap] w fun e w' => e = .returned (.int .u32 r) ∧ Below w.heap.size w w' := by
  have h := add_any r p 0 0 cap [] w hr ht (fun h => absurd h (by simp)) (by simp) (fun j hj => absurd hj (by simp)) (fun j hj => absurd hj (by simp))
  rw [show addN r (catN []) = r from add_nil r] at h
  exact h
theorem add_two (r : Nat) (w : World) (N : Nat) (hN : N = w.heap.size) (hr : r < 4294967296) (ht : Tabs w) :
    Calls Tryd.prog 6 #[.int .u32 r, .slice (some ⟨N, 0, none⟩) 2 2] (w.alloc (.cells #[.string ⟨#[]⟩, .string ⟨#[]⟩] 9)) fun e w' => e = .returned (.int .u32 r) ∧ Below w.heap.size w w' := by
  subst hN
  have h0 := (Below.refl w.heap.size w).alloc (Nat.le_refl _) (.cells #[.string ⟨#[]⟩, .string ⟨#[]⟩] 9)
  refine (add_any r _ w.heap.size 0 2 [⟨#[]⟩, ⟨#[]⟩] (w.alloc (.cells #[.string ⟨#[]⟩, .string ⟨#[]⟩] 9)) hr (ht.below h0) (fun _ => ⟨rfl, by simp⟩) (by simp) ?_ ?_).mono ?_
  · intro j hj
    match j, hj with
    | 0, _ => exact Nat.zero_le _
    | 1, _ => exact Nat.zero_le _
  · intro j hj
    match j, hj with
    | 0, _ => simp [World.cell?_alloc_at]
    | 1, _ => simp [World.cell?_alloc_at]
  · rintro e w' ⟨he, hb⟩
    refine ⟨?_, h0.trans (hb.mono (by simp))⟩
    rw [he, show addN r (catN [⟨#[]⟩, ⟨#[]⟩]) = r from add_nil r]

set_option maxHeartbeats 1000000 in
theorem walk (a0 : ByteArray) (x1 x2 : Int) (w : World) (w0 : a0.size ≤ maxLen) (w1 : (Lit.int .u8 x1).wf = true) (w2 : (Lit.int .u8 x2).wf = true) (hT : Tabs w) :
    Calls Tryd.prog 3 #[.string a0, .int .u8 x1, .int .u8 x2] w fun e w' => e = .returned (.bool true) ∧ Below w.heap.size w w' := by
  have b1 := bounds_u8 w1
  have b2 := bounds_u8 w2
  obtain ⟨a, rfl⟩ := Int.eq_ofNat_of_zero_le b1.1
  obtain ⟨b, rfl⟩ := Int.eq_ofNat_of_zero_le b2.1
  have ha8 : a < 256 := by omega
  have hb8 : b < 256 := by omega
  have HT := Lib.hid hT
  have HW0 := Lib.hid w0
  unfold maxLen at w0
  clear hT w1 w2 b1 b2
  by_cases h3 : 300 < a0.size
  · have hd : decide ((300 : Int) < (a0.size : Int)) = true := by simp; omega
    go_enter Tryd.func3, Tryd.ntmps3
    go_wp2_with fail
    refine (head_any _ HT.out).mono ?_
    rintro e w1 ⟨rfl, hb⟩
    go_wp2_with fail
    go_ret
    exact ⟨rfl, hb⟩
  · have hd : decide ((300 : Int) < (a0.size : Int)) = false := by simp; omega
    obtain ⟨r, hr⟩ : ∃ r, r = addN 0 a0.data.toList := ⟨_, rfl⟩
    have hrl : r < 4294967296 := by rw [hr]; exact addN_lt _ _ (by omega)
    have H1 := Lib.hid (fun (W : World) (N : Nat) (hN : N = W.heap.size) (hW : Tabs W) => of_one a0 W N hN hW HW0.out)
    rw [← hr] at H1
    obtain ⟨y, hy⟩ : ∃ y, y = addN r [UInt8.ofNat a] := ⟨_, rfl⟩
    obtain ⟨z, hz⟩ : ∃ z, z = addN r [UInt8.ofNat b] := ⟨_, rfl⟩
    have H2 := Lib.hid (fun (W : World) (N : Nat) (hN : N = W.heap.size) (hW : Tabs W) => add_one r ⟨#[UInt8.ofNat a]⟩ W N hN hrl hW (by show 1 ≤ maxLen; unfold maxLen; omega))
    have H3 := Lib.hid (fun (W : World) (N : Nat) (hN : N = W.heap.size) (hW : Tabs W) => add_one r ⟨#[UInt8.ofNat b]⟩ W N hN hrl hW (by show 1 ≤ maxLen; unfold maxLen; omega))
    rw [show addN r (ByteArray.data ⟨#[UInt8.ofNat a]⟩).toList = y from hy.symm] at H2
    rw [show addN r (ByteArray.data ⟨#[UInt8.ofNat b]⟩).toList = z from hz.symm] at H3
    have hyz : ((y : Int) == (z : Int)) = ((a : Int) == (b : Int)) := by
      rw [Bool.eq_iff_iff]
      simp only [beq_iff_eq, Int.natCast_inj]
      rw [hy, hz, add_byte r _ _ hrl, ← UInt8.toNat_inj, UInt8.toNat_ofNat', UInt8.toNat_ofNat']
      omega
    obtain ⟨B, hB⟩ : ∃ B, ((a : Int) == (b : Int)) = B := ⟨_, rfl⟩
    have hB2 := hyz.trans hB
    clear hr hy hz hyz
    go_enter Tryd.func3, Tryd.ntmps3
    go_wp2_with fail
    refine (head_any _ HT.out).mono ?_
    rintro e w1 ⟨rfl, hb1⟩
    go_wp2_with fail
    refine (H1.out _ _ rfl (HT.out.below hb1)).mono ?_
    rintro e w2 ⟨rfl, hb2'⟩
    have hb2 := hb1.trans (hb2'.mono hb1.size)
    clear hb1 hb2'
    have hsa := run_str_u8 w2 a ha8
    have hb3 := hb2.alloc hb2.size (.cells #[.int .u8 (a : Int)] 5)
    go_wp2_with fail
    refine (H2.out _ _ (by simp) (HT.out.below hb3)).mono ?_
    rintro e w4 ⟨rfl, hb4'⟩
    have hb4 := hb3.trans (hb4'.mono hb3.size)
    clear hb2 hb3 hb4' hsa
    have hsb := run_str_u8 w4 b hb8
    have hb5 := hb4.alloc hb4.size (.cells #[.int .u8 (b : Int)] 5)
    go_wp2_with fail
    refine (H3.out _ _ (by simp) (HT.out.below hb5)).mono ?_
    rintro e w6 ⟨rfl, hb6'⟩
    have hb6 := hb5.trans (hb6'.mono hb5.size)
    clear hb4 hb5 hb6' hsb
    cases B with
    | true =>
      go_wp2_with fail
      refine (add_empty r none 0 _ hrl (HT.out.below hb6)).mono ?_
      rintro e w7 ⟨rfl, hb7'⟩
      have hb7 := hb6.trans (hb7'.mono hb6.size)
      go_wp2_with fail
      refine (add_two r _ _ rfl hrl (HT.out.below hb7)).mono ?_
      rintro e w8 ⟨rfl, hb8'⟩
      go_wp2_with fail
      go_ret
      exact ⟨rfl, hb7.trans (hb8'.mono hb7.size)⟩
    | false =>
      go_wp2_with fail
      refine (add_empty r none 0 _ hrl (HT.out.below hb6)).mono ?_
      rintro e w7 ⟨rfl, hb7'⟩
      have hb7 := hb6.trans (hb7'.mono hb6.size)
      go_wp2_with fail
      refine (add_two r _ _ rfl hrl (HT.out.below hb7)).mono ?_
      rintro e w8 ⟨rfl, hb8'⟩
      go_wp2_with fail
      go_ret
      exact ⟨rfl, hb7.trans (hb8'.mono hb7.size)⟩

theorem own : ownKnob Tryd.prog.godebug = none := by kernel_rfl
theorem laidOut : laidOutB Tryd.prog = true := by kernel_rfl
theorem gHi : Tryd.prog.globalNamed "orchard/sum.highTable" = some 0 := by kernel_rfl
theorem gLo : Tryd.prog.globalNamed "orchard/sum.lowTable" = some 1 := by kernel_rfl
theorem gHiType : (Tryd.prog.globals[0]?).map (·.type) = some 30 := by kernel_rfl
theorem gLoType : (Tryd.prog.globals[1]?).map (·.type) = some 30 := by kernel_rfl
theorem cellsTab : Tryd.prog.cellsOf 30 = 16 := by kernel_rfl
theorem cellsSum : Tryd.prog.cellsOf 24 = 1 := by kernel_rfl

theorem table_lo {W : World} (h : laidMetH Tryd.prog Rows.sumGoesRow.laid W) : Lib.TabIs Tryd.prog W "orchard/sum.lowTable" .u32 LO :=
  Lib.tabIs_of_head (rest := [("orchard/sum.highTable", Rows.laid_orchard_sum_highTable)]) gLo gLoType Tryd.underlying30 Tryd.underlying24 cellsSum cellsTab h
theorem table_hi {W : World} (h : laidMetH Tryd.prog Rows.sumGoesRow.laid W) : Lib.TabIs Tryd.prog W "orchard/sum.highTable" .u32 HI :=
  Lib.tabIs_of_head (rest := []) gHi gHiType Tryd.underlying30 Tryd.underlying24 cellsSum cellsTab (laidMet.tail (show laidMet Tryd.prog [("orchard/sum.lowTable", Rows.laid_orchard_sum_lowTable), ("orchard/sum.highTable", Rows.laid_orchard_sum_highTable)] W from h))
theorem tabs_of {W : World} (h : laidMetH Tryd.prog Rows.sumGoesRow.laid W) : Tabs W := by
  have c0 := fun (j : Nat) (hj : j < 16) => (table_hi h).cell gHi j hj
  have c1 := fun (j : Nat) (hj : j < 16) => (table_lo h).cell gLo j hj
  refine ⟨⟨World.block_lt_of_cell? W _ (c0 0 (by decide)), World.block_lt_of_cell? W _ (c1 0 (by decide))⟩, fun j hj => ?_, fun j hj => ?_⟩
  · rw [c0 j hj, hi_cast j]
  · rw [c1 j hj, lo_cast j]

theorem contract (H : Type) (enc : TypeId × Value → H) (W : World) (base : Nat) (args : Array Value) (ds gs : List (DataW H)) (before : List MemPlace)
    (hval : ∀ (j : Nat) t v, Tryd.f3.params[j]? = some t → args[j]? = some v → Value.okWide Tryd.prog W .any base t v)
    (hW : DataW.Whole enc Tryd.prog Tryd.f3.params.toList Rows.sumGoesSpec.vars false W args.toList ds gs before) (hL : laidMetH Tryd.prog Rows.sumGoesRow.laid W) :
    Calls Tryd.prog 3 args W fun e W' => ∃ v, e = .returned v ∧ Rows.sumGoesSpec.post enc Tryd.prog Tryd.f3 false true false false W args v W' := by
  have hT := tabs_of hL
  have hW' := hW
  obtain ⟨p, q, hA0, hV, rfl, hfz, hnd⟩ := hW
  have hA : DataW.TrodAll enc Tryd.prog W 0 (fun _ => true) true Tryd.f3.params.toList args.toList ds p := hA0
  rw [Tryd.params3] at hA hval
  obtain ⟨v0, vs0, d0, ds0, p0, q0, hargs, rfl, rfl, h0, r0⟩ := trodAll_cons hA
  obtain ⟨v1, vs1, d1, ds1, p1, q1, rfl, rfl, rfl, h1, r1⟩ := trodAll_cons r0
  obtain ⟨v2, vs2, d2, ds2, p2, q2, rfl, rfl, rfl, h2, r2⟩ := trodAll_cons r1
  obtain ⟨rfl, rfl, rfl⟩ := trodAll_nil r2
  obtain rfl : args = #[v0, v1, v2] := by cases args; simp_all
  obtain ⟨rfl, rfl⟩ := trodVars_none hV
  obtain ⟨a0, rfl, rfl, rfl, w0⟩ := open_string Tryd.underlying9 (hval 0 9 v0 rfl rfl) h0
  obtain ⟨a1, rfl, rfl, rfl, w1⟩ := open_int Tryd.underlying5 (hval 1 5 v1 rfl rfl) h1
  obtain ⟨a2, rfl, rfl, rfl, w2⟩ := open_int Tryd.underlying5 (hval 2 5 v2 rfl rfl) h2
  clear hA0
  refine (walk a0 a1 a2 W w0 w1 w2 hT).mono fun e W' ⟨he, bel⟩ => ?_
  subst he
  exact ⟨_, rfl, _, _, _, [], _, [], hW', trodAll_mk1 (shut_bool Tryd.underlying4 _), (trodAll_cons_mk (shut_string Tryd.underlying9 w0) (trodAll_cons_mk (shut_int Tryd.underlying5 w1) (trodAll_cons_mk (shut_int Tryd.underlying5 w2) trodAll_mk0))), rfl, bel.frame _, fun h => by cases h⟩

def setTab (l : List Int) : Obj → Obj
  | .cells _ t frozen => .cells (l.map (Value.int .u32)).toArray t frozen
  | o => o
noncomputable def laidWorld (os : Os) : World :=
  { World.holding Tryd.prog os ⟨#[], #[], []⟩ with heap := ((World.holding Tryd.prog os ⟨#[], #[], []⟩).heap.modify 1 (setTab LO)).modify 0 (setTab HI) }
theorem laid_met (os : Os) : laidMet Tryd.prog Rows.sumGoesRow.laid ((laidWorld os).forCall (fun _ _ => 0) ⟨#[], #[.string ByteArray.empty, .int .u8 0, .int .u8 0], []⟩).memory :=
  laidMet_of_run' 8 (by kernel_rfl) (by kernel_rfl)
theorem reads (os : Os) {H : Type} (enc : TypeId × Value → H) : ∃ places, DataW.whole enc Tryd.prog ((laidWorld os).forCall (fun _ _ => 0) ⟨#[], #[.string ByteArray.empty, .int .u8 0, .int .u8 0], []⟩).memory Tryd.f3.params.toList Rows.sumGoesSpec.vars false #[Value.string ByteArray.empty, Value.int .u8 0, Value.int .u8 0].toList 8 = some ([.lit (.string []), .lit (.int .u8 0), .lit (.int .u8 0)], [], places) :=
  ⟨[], by kernel_rfl⟩

set_option maxRecDepth 100000 in
theorem lifted (os : Os) (started : os.Started) (H : Type) (enc : TypeId × Value → H) (F : Stop.Interp) :
    ReturnsInHanded {} Tryd.checked os 3 .any ((OpenSpec.ofChange Rows.sumGoesSpec).preRow enc Tryd.prog Tryd.f3 Rows.sumGoesRow.domain false Rows.sumGoesRow.laid) (((OpenSpec.ofChange Rows.sumGoesSpec).at F).post enc Tryd.prog Tryd.f3 false true false false) := by
  obtain ⟨places, hx⟩ := reads os enc
  refine returnsInHanded_of_row (C := Tryd.checked) (s := OpenSpec.ofChange Rows.sumGoesSpec) own started (by kernel_rfl) Tryd.func3
    (witness_row_at (enc := enc) (C := Tryd.checked) false (laidWorld os) #[.string ByteArray.empty, .int .u8 0, .int .u8 0] rfl (by kernel_rfl) (by kernel_rfl) (by kernel_rfl)
      (OpenSpec.preRow_of_cond 8 hx (by kernel_rfl) (fun k hk => by cases hk) (by kernel_rfl) (laid_met os))) ?_
  intro W base args ds gs before hval hW _ _ _ hL _ _
  exact contract H enc W base args ds gs before hval hW hL

theorem said : Rows.SumGoesSaid :=
  OpenClaim.holds_of_cond 3 Tryd.f3 rfl rfl rfl rfl rfl rfl rfl ⟨rfl, rfl, rfl, rfl, rfl⟩ rfl rfl rfl rfl rfl (by kernel_rfl) Tryd.func3 (by kernel_rfl)
    (of_decide_eq_true (by kernel_rfl)) (by unfold Func.isWrapper; first | (rw [if_pos (by decide +kernel)]; kernel_rfl) | (rw [if_neg (by decide +kernel)]; exact ⟨rfl, rfl⟩))
    (fun os started H enc _ F => by rw [OpenClaim.pre_eq_preRow]; exact lifted os started H enc F)

theorem plain (f : FuncId) (fn : Func) (hf : Tryd.pinned.checked.prog.funcNamed "orchard/orchardlaw02.SumGoes" = some f) (hfn : Tryd.pinned.checked.prog.funcs[f]? = some fn) :
    false = Tryd.pinned.checked.prog.looks [] ∧ ∀ (j : Nat) t, fn.params[j]? = some t → Tryd.pinned.checked.prog.wantsStandIn t = false := by
  obtain rfl : f = 3 := Option.some.inj ((show Tryd.prog.funcNamed "orchard/orchardlaw02.SumGoes" = some 3 by kernel_rfl).symm.trans hf) |>.symm
  obtain rfl : fn = Tryd.f3 := (Option.some.inj (Tryd.func3.symm.trans hfn)).symm
  refine ⟨by kernel_rfl, fun j t ht => ?_⟩
  rw [Tryd.params3] at ht
  have hm := Array.mem_of_getElem? ht
  simp at hm
  rcases hm with rfl | rfl
  · exact (show Tryd.prog.wantsStandIn 9 = false by kernel_rfl)
  · exact (show Tryd.prog.wantsStandIn 5 = false by kernel_rfl)

theorem card : Rows.SumGoesCardSaid :=
  Claim7.holds_tied_plain_at .later [] _ _ _ _ said (fun _ h => by cases h) (by kernel_rfl) (fun _ h => by cases h) sumGoes_row_tie rfl ⟨rfl, rfl⟩ (by kernel_rfl) rfl plain (by kernel_rfl)
end Go.Proofs.YtefofhejaafgnabDoor.sumGoes
