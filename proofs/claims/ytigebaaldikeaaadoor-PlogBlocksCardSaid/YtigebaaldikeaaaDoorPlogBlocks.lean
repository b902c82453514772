/- PlogBlocks: the contents of the device, entry by entry and mark by mark, whatever acts were done; no condition on the input (the two tables start as the program text lays them). -/
import Derived.Test.YtigebaaldikeaaaDoorPlogDoA
import Derived.Test.YtigebaaldikeaaaDoorCards
import Derived.Test.YtigebaaldikeaaaDoorTie
import Derived.ProofKit
import Derived.OpenShut
import Derived.ShutString
import Derived.ChangeOld
import Derived.Deep.DeepHandedRow
import Derived.Lib.LaidTab
import Derived.Stop.LaidErr
namespace Go.Proofs.YtigebaaldikeaaaDoor.plogBlocks
open Go.ChangeShapes Go.WideShapes Go.ChangeAt Go.RowKit
open Go.ChangeMaps (open_string shut_string)
set_option linter.unusedVariables false
set_option maxRecDepth 100000
/-- What a round starts from. -/
def BkRel (m wb k : Nat) (w1 wr : World) : Prop := ∃ first xs, Wl m wb wr first xs (20000 + 30 * k) ∧ first ≤ 1 + 3 * (k : Int) ∧ Below m w1 wr
set_option maxHeartbeats 4000000 in
theorem walk (v0 : Value) (qs : List Aq6) (w : World) (w0 : Acts6 w v0 qs) (hT : Tabs w) :
    Calls Tryd.prog 6 #[v0] w fun e w' => e = .returned (.bool true) ∧ Below w.heap.size w w' := by
  have HT := Lib.hid (fun (x : World) (hb : Below w.heap.size w x) => hT.below hb)
  obtain ⟨va, vcap, rfl, hlen, _⟩ := id w0
  unfold maxLen at hlen
  have HA := Lib.hid w0
  clear hT w0
  go_enter Tryd.func6, Tryd.ntmps6
  go_wp2_with fail
  refine (phead_any w HT.out).mono ?_
  rintro e wa ⟨rfl, hba⟩
  go_wp2_with fail
  refine (few6_any va vcap qs wa (HA.out.below hba)).mono ?_
  rintro e w1 ⟨rfl, hb1'⟩
  have hb1 := hba.trans (hb1'.mono hba.size)
  clear hb1' hba
  by_cases hfew : few6 qs = false
  · rw [hfew]
    go_wp2_with fail
    go_ret
    exact ⟨rfl, hb1⟩
  have hfw : few6 qs = true := by simpa using hfew
  clear hfew
  rw [hfw]
  have HF := Lib.hid (fun (k : Nat) (hk : k < qs.length) => few6_at hfw hk)
  clear hfw
  go_wp2_with fail
  refine (pnew_any w1 (fun x hx => HT.out x (hb1.trans (hx.mono hb1.size)))).mono ?_
  rintro e w2 hN
  obtain ⟨wb, E, B, b, bt, bd, D2, rfl, W2, hb2⟩ := wl_new hN
  have HTb := Lib.hid (fun (x : World) (hx : Below w1.heap.size w1 x) => HT.out x (hb1.trans (hx.mono hb1.size)))
  have R0 : BkRel w1.heap.size wb 0 w1 w2 := ⟨1, [], ⟨E, B, b, bt, bd, D2, _, _, W2.mono (by decide)⟩, by decide, hb2⟩
  have HA1 := Lib.hid (HA.out.below hb1)
  clear hN W2 hb2
  go_wp2_with fail
  go_loopw [25] (fun i wr => ∃ k : Nat, k ≤ qs.length ∧ i = .int .i64 (k : Int) ∧ BkRel w1.heap.size wb k w1 wr) (fun i _ => qs.length - (intOf i).toNat)
  case atStart => exact ⟨0, Nat.zero_le _, rfl, R0⟩
  case round =>
    obtain ⟨k, hk, rfl, HR⟩ := hrel
    clear R0
    by_cases hlt : k < qs.length
    · have hlt' : (k : Int) < (qs.length : Int) := by omega
      have hk0 : (0 : Int) ≤ (k : Int) := by omega
      obtain ⟨hdat, _, hq30⟩ := HF.out k hlt
      obtain ⟨first, xs, ⟨E1, B1, b1, bt1, bd1, D1, xa, xm, Wk⟩, hfx, Bk⟩ := HR
      obtain ⟨hok, hfz, g, off, rfl, h0, h1, h2, h3, h4, h5, h6⟩ := act6_at HA1.out Bk hlt
      have HFZ := Lib.hid (fun (x : World) (hx : Below w1.heap.size wr x) => (act6_at HA1.out (Bk.trans hx) hlt).2.1)
      clear hok hfz
      generalize qs.getD k aq0 = x at *
      obtain ⟨⟨ak, an, at', ab, af, ad⟩, xfv, xzs⟩ := x
      simp only at *
      obtain ⟨fa, fcap, hfv, _⟩ := HFZ.out wr (Below.refl _ _)
      subst hfv
      have bA := (Below.refl wr.heap.size wr).alloc (Nat.le_refl _) (.cells #[.int .i64 ak, .int .i64 an, .int .i64 at', .int .i64 ab, .int .i64 0, .string ad, (.slice fa xzs.length fcap)] 46)
      have hms := Wk.size
      have HDO := Lib.hid (do6_any ⟨E1, B1, b1, bt1, bd1, D1, xa, xm, Wk.below bA⟩ (Nat.le_trans hms bA.size) (fun y hy => HTb.out y (Bk.trans ((bA.mono hms).trans hy))) ⟨ak, an, at', ab, 0, ad⟩ (.slice fa xzs.length fcap) xzs (fun y hy => HFZ.out y ((bA.mono hms).trans hy)) rfl hdat (20000 + 30 * k) (by omega) (by omega))
      have Bk2 := Bk.trans (bA.mono hms)
      clear Wk bA
      unfold actV at HDO
      go_wp2_with fail
      refine HDO.out.mono ?_
      rintro e w4 ⟨rfl, f4, ys, W4, hf4, B4⟩
      have R4 : BkRel w1.heap.size wb (k + 1) w1 w4 := ⟨f4, ys, by rw [show 20000 + 30 * (k + 1) = 20000 + 30 * k + 30 by omega]; exact W4, by push_cast; omega, Bk2.trans B4⟩
      clear W4 B4 HDO
      go_wp2_with fail
      go_roundw
      case rel => exact ⟨k + 1, by omega, by go_num, R4⟩
      case measure => simp [intOf]; omega
    · obtain rfl : k = qs.length := by omega
      clear hlt
      obtain ⟨first, xs, ⟨E1, B1, b1, bt1, bd1, D1, xa, xm, Wk⟩, hfx, Bk⟩ := HR
      obtain ⟨a, cap, rfl, hcap, hnone, hspot⟩ := Wk.cap
      have hfi := Wk.lw.neat.ents.fits
      have hf1 := Wk.lw.neat.ents.first
      have hhi := Wk.lw.neat.ents.high
      have hix := Wk.lw.neat.ents.idx
      simp only at hfi hf1 hhi hix
      have hx8 : (xs.length : Int) ≤ 8 := hfi
      have hms := Wk.size
      obtain ⟨⟨c0, c1, c2, c3, c4⟩, _⟩ := Wk.wld.cells
      have HW := Lib.hid Wk
      have HIX := Lib.hid hix
      have HTW := Lib.hid (fun (y : World) (hy : Below w1.heap.size wr y) => HTb.out y (Bk.trans hy))
      have R1 := Below.refl wr.heap.size wr
      have HBK := Lib.hid Bk
      clear Wk hix hcap hnone hspot Bk hfi
      go_wp2_with fail
      go_loopw [40] (fun i wx => ∃ j : Nat, j ≤ xs.length ∧ i = .int .i64 (j : Int) ∧ Below wr.heap.size wr wx) (fun i _ => xs.length - (intOf i).toNat)
      case atStart => exact ⟨0, Nat.zero_le _, rfl, R1⟩
      case round =>
        obtain ⟨j, hj, rfl, Bj⟩ := hrel
        clear R1 c0 c1 c2 c3 c4
        have Wj := HW.out.below Bj
        have hj0 : (0 : Int) ≤ (j : Int) := by omega
        by_cases hlt : j < xs.length
        · have hlt' : (j : Int) < (xs.length : Int) := by omega
          obtain ⟨x, hx⟩ : ∃ x, xs[j]? = some x := ⟨xs[j], List.getElem?_eq_getElem hlt⟩
          have hxi := HIX.out j x hx
          obtain ⟨s1, s2⟩ := wl_blocks Wj j x hx
          obtain ⟨a', cap', hs, _, hg⟩ := Wj.all
          have hac : a = a' ∧ cap = cap' := by injection hs with x1 x2 x3; exact ⟨x1, x3⟩
          obtain ⟨rfl, rfl⟩ := hac
          rcases hg with h0 | ⟨g, off, rfl, hFg, hgl, hcell⟩
          · omega
          obtain ⟨m0, m1, m2⟩ := hcell j x hx
          obtain ⟨i, hi⟩ : ∃ i : Int, i = first + (j : Int) := ⟨_, rfl⟩
          obtain ⟨z, hz⟩ : ∃ z : Int, z = i % 8 := ⟨_, rfl⟩
          have hz8 : 0 ≤ z ∧ z ≤ 7 := by omega
          have e1 : IntKind.i64.wrap (first + (j : Int)) = i := by rw [IntWalk.i64_in _ (by omega), hi]
          have e2 : i.tmod 8 = z := by rw [Int.tmod_eq_emod_of_nonneg (by omega), hz]
          have e3 : IntKind.i64.wrap (3 + z) = 3 + z := IntWalk.i64_in _ (by omega)
          have e4 : IntKind.i64.wrap (11 + z) = 11 + z := IntWalk.i64_in _ (by omega)
          rw [← hi, ← hz] at s1 s2
          rw [← hi] at hxi
          have HS1 : Hid (∀ W, Below wr.heap.size wr W → Calls Tryd.prog 32 #[.pointer (some ⟨B1, 0, none⟩), .int .i64 (3 + z)] W fun e w' => e = .returned (.tuple #[.agg #[.int .i64 2, .int .i64 i, .int .i64 x.term, .string x.data], .int .i64 1, .int .i64 0]) ∧ Below W.heap.size W w') := by
            intro W hb
            have := wl_sread (Wj.below hb) (fun y hy => HTW.out y (((Bj.trans (hb.mono Bj.size)).mono hms).trans hy)) (3 + z)
            rw [s1] at this
            unfold sreadV recV entR at this
            simp only [hxi] at this
            exact this
          have HS2 : Hid (∀ W, Below wr.heap.size wr W → Calls Tryd.prog 32 #[.pointer (some ⟨B1, 0, none⟩), .int .i64 (11 + z)] W fun e w' => e = .returned (.tuple #[.agg #[.int .i64 3, .int .i64 i, .int .i64 x.term, .string ⟨#[]⟩], .int .i64 1, .int .i64 0]) ∧ Below W.heap.size W w') := by
            intro W hb
            have := wl_sread (Wj.below hb) (fun y hy => HTW.out y (((Bj.trans (hb.mono Bj.size)).mono hms).trans hy)) (11 + z)
            rw [s2] at this
            unfold sreadV recV mkR markR at this
            simp only [hxi] at this
            exact this
          have Heq1 := eq_recn ⟨2, i, x.term, x.data⟩
          have Heq2 := eq_recn ⟨3, i, x.term, ⟨#[]⟩⟩
          simp only at Heq1 Heq2
          have NA := EnB.new wr ⟨x.index, x.term, x.data⟩
          have bA := (Below.refl wr.heap.size wr).alloc (Nat.le_refl _) (.cells #[.int .i64 x.index, .int .i64 x.term, .string x.data] 60)
          have HV := Lib.hid (fun (W : World) (hb : Below wr.heap.size wr W) => ((Wj.below hb).wld).cells.1)
          obtain ⟨c0, c1, c2, c3, c4⟩ := Wj.wld.cells.1
          have hwl := Wj.wld.lt
          have y1 : ¬ wb = wr.heap.size := Nat.ne_of_lt hwl
          have y2 : ¬ wr.heap.size = wb := Nat.ne_of_gt hwl
          have HBJ := Lib.hid Bj
          clear Wj hi hz s1 s2 hxi hx hcell hFg hgl Bj
          go_upto_region 18 with fail
          generalize wr.alloc (.cells #[.int .i64 x.index, .int .i64 x.term, .string x.data] 60) = w3 at NA bA ⊢
          obtain ⟨d0, _, d2, _, _⟩ := HV.out w3 bA
          clear m0 m1 m2 c0 c1 c2 c3 c4
          go_wp2_with fail
          refine (HS1.out w3 bA).mono ?_
          rintro e w4 ⟨rfl, hb4⟩
          have NB := NA.below hb4
          have bB := bA.trans (hb4.mono bA.size)
          have RC := RecB.new w4 ⟨2, i, x.term, x.data⟩
          have bC := bB.alloc bB.size (.cells #[.int .i64 2, .int .i64 i, .int .i64 x.term, .string x.data] 72)
          have NC := NB.below ((Below.refl w4.heap.size w4).alloc (Nat.le_refl _) (.cells #[.int .i64 2, .int .i64 i, .int .i64 x.term, .string x.data] 72))
          go_upto_region 20 with fail
          generalize w4.alloc (.cells #[.int .i64 2, .int .i64 i, .int .i64 x.term, .string x.data] 72) = w5 at RC bC NC ⊢
          obtain ⟨k0, _, k2, _, _⟩ := HV.out w5 bC
          clear d0 d2 NA bA NB bB hb4
          go_wp2_with fail
          refine (HS2.out w5 bC).mono ?_
          rintro e w6 ⟨rfl, hb6⟩
          have ND := NC.below hb6
          have RD := RC.below hb6
          have bD := bC.trans (hb6.mono bC.size)
          have RE := RecB.new w6 ⟨3, i, x.term, ⟨#[]⟩⟩
          have bE := bD.alloc bD.size (.cells #[.int .i64 3, .int .i64 i, .int .i64 x.term, .string ⟨#[]⟩] 72)
          have NE := ND.below ((Below.refl w6.heap.size w6).alloc (Nat.le_refl _) (.cells #[.int .i64 3, .int .i64 i, .int .i64 x.term, .string ⟨#[]⟩] 72))
          have RF := RD.below ((Below.refl w6.heap.size w6).alloc (Nat.le_refl _) (.cells #[.int .i64 3, .int .i64 i, .int .i64 x.term, .string ⟨#[]⟩] 72))
          clear k0 k2 NC bC RC ND RD bD hb6
          go_upto_region 21 with fail
          generalize w6.alloc (.cells #[.int .i64 3, .int .i64 i, .int .i64 x.term, .string ⟨#[]⟩] 72) = w7 at RE bE NE RF ⊢
          obtain ⟨⟨n0, n1, n2⟩, _⟩ := NE.cells
          obtain ⟨⟨r0, r1, r2, r3⟩, _⟩ := RF.cells
          obtain ⟨⟨t0, t1, t2, t3⟩, _⟩ := RE.cells
          simp only at n0 n1 n2 r0 r1 r2 r3 t0 t1 t2 t3
          go_wp2_with fail
          go_roundw
          case rel => exact ⟨j + 1, by omega, by go_num, HBJ.out.trans (bE.mono HBJ.out.size)⟩
          case measure => simp [intOf]; omega
        · obtain rfl : j = xs.length := by omega
          have hnl : ¬ ((xs.length : Nat) : Int) < (xs.length : Int) := by omega
          clear Wj hlt
          go_wp2_with fail
          go_ret
          exact ⟨rfl, hb1.trans ((HBK.out.trans (Bj.mono hms)).mono hb1.size)⟩

theorem own : ownKnob Tryd.prog.godebug = none := by kernel_rfl
theorem laidOut : laidOutB Tryd.prog = true := by kernel_rfl
theorem gHi : Tryd.prog.globalNamed "orchard/sum.highTable" = some 0 := by kernel_rfl
theorem gLo : Tryd.prog.globalNamed "orchard/sum.lowTable" = some 1 := by kernel_rfl
theorem gHiType : (Tryd.prog.globals[0]?).map (·.type) = some 159 := by kernel_rfl
theorem gLoType : (Tryd.prog.globals[1]?).map (·.type) = some 159 := by kernel_rfl
theorem cellsTab : Tryd.prog.cellsOf 159 = 16 := by kernel_rfl
theorem cellsSum : Tryd.prog.cellsOf 150 = 1 := by kernel_rfl

theorem table_lo {W : World} (h : laidMetH Tryd.prog Rows.plogBlocksRow.laid W) : Lib.TabIs Tryd.prog W "orchard/sum.lowTable" .u32 LO :=
  Lib.tabIs_of_head (rest := [("orchard/sum.highTable", Rows.laid_orchard_sum_highTable)]) gLo gLoType Tryd.underlying159 Tryd.underlying150 cellsSum cellsTab h
theorem table_hi {W : World} (h : laidMetH Tryd.prog Rows.plogBlocksRow.laid W) : Lib.TabIs Tryd.prog W "orchard/sum.highTable" .u32 HI :=
  Lib.tabIs_of_head (rest := []) gHi gHiType Tryd.underlying159 Tryd.underlying150 cellsSum cellsTab (laidMet.tail (show laidMet Tryd.prog [("orchard/sum.lowTable", Rows.laid_orchard_sum_lowTable), ("orchard/sum.highTable", Rows.laid_orchard_sum_highTable)] W from h))
theorem tabs_of {W : World} (h : laidMetH Tryd.prog Rows.plogBlocksRow.laid W) : Tabs W := by
  have c0 := fun (j : Nat) (hj : j < 16) => (table_hi h).cell gHi j hj
  have c1 := fun (j : Nat) (hj : j < 16) => (table_lo h).cell gLo j hj
  refine ⟨⟨World.block_lt_of_cell? W _ (c0 0 (by decide)), World.block_lt_of_cell? W _ (c1 0 (by decide))⟩, fun j hj => ?_, fun j hj => ?_⟩
  · rw [c0 j hj, hi_cast j]
  · rw [c1 j hj, lo_cast j]

theorem contract (H : Type) (enc : TypeId × Value → H) (W : World) (base : Nat) (args : Array Value) (ds gs : List (DataW H)) (before : List MemPlace)
    (hval : ∀ (j : Nat) t v, Tryd.f6.params[j]? = some t → args[j]? = some v → Value.okWide Tryd.prog W .any base t v)
    (hW : DataW.Whole enc Tryd.prog Tryd.f6.params.toList Rows.plogBlocksSpec.vars false W args.toList ds gs before) (hL : laidMetH Tryd.prog Rows.plogBlocksRow.laid W) :
    Calls Tryd.prog 6 args W fun e W' => ∃ v, e = .returned v ∧ Rows.plogBlocksSpec.post enc Tryd.prog Tryd.f6 false true false false W args v W' := by
  have hT := tabs_of hL
  have hW' := hW
  obtain ⟨p, q, hA0, hV, rfl, hfz, hnd⟩ := hW
  have hA : DataW.TrodAll enc Tryd.prog W 0 (fun _ => true) true Tryd.f6.params.toList args.toList ds p := hA0
  rw [Tryd.params6] at hA hval
  obtain ⟨v0, vs0, d0, ds0, p0, q0, hargs, rfl, rfl, h0, r0⟩ := trodAll_cons hA
  obtain ⟨rfl, rfl, rfl⟩ := trodAll_nil r0
  obtain rfl : args = #[v0] := by cases args; simp_all
  obtain ⟨rfl, rfl⟩ := trodVars_none hV
  have k0 := h0
  have lt0 : ∀ x ∈ p0, x.block < W.heap.size := by obtain ⟨m, hm⟩ := k0; exact DataW.trod_lt m _ _ _ hm
  obtain ⟨z0, w0⟩ := acts6_of (hval 0 39 v0 rfl rfl) h0
  clear hA0
  refine (walk v0 z0 W w0 hT).mono fun e W' ⟨he, bel⟩ => ?_
  subst he
  exact ⟨_, rfl, _, _, _, [], _, [], hW', trodAll_mk1 (shut_bool Tryd.underlying4 _), (trodAll_cons_mk (Below.trod laidOut (by kernel_rfl) (of_decide_eq_true (by kernel_rfl)) k0 bel lt0) trodAll_mk0), rfl, bel.frame _, fun h => by cases h⟩

def setTab (l : List Int) : Obj → Obj
  | .cells _ t frozen => .cells (l.map (Value.int .u32)).toArray t frozen
  | o => o
noncomputable def laidWorld (os : Os) : World :=
  { World.holding Tryd.prog os ⟨#[], #[], []⟩ with heap := ((World.holding Tryd.prog os ⟨#[], #[], []⟩).heap.modify 1 (setTab LO)).modify 0 (setTab HI) }
theorem laid_met (os : Os) : laidMet Tryd.prog Rows.plogBlocksRow.laid ((laidWorld os).forCall (fun _ _ => 0) ⟨#[], #[.slice none 0 0], []⟩).memory :=
  laidMet_of_run' 8 (by kernel_rfl) (by kernel_rfl)
theorem reads (os : Os) {H : Type} (enc : TypeId × Value → H) : ∃ places, DataW.whole enc Tryd.prog ((laidWorld os).forCall (fun _ _ => 0) ⟨#[], #[.slice none 0 0], []⟩).memory Tryd.f6.params.toList Rows.plogBlocksSpec.vars false #[Value.slice none 0 0].toList 8 = some ([.nil], [], places) :=
  ⟨[], by kernel_rfl⟩

set_option maxRecDepth 100000 in
theorem lifted (os : Os) (started : os.Started) (H : Type) (enc : TypeId × Value → H) (F : Stop.Interp) :
    ReturnsInHanded {} Tryd.checked os 6 .any ((OpenSpec.ofChange Rows.plogBlocksSpec).preRow enc Tryd.prog Tryd.f6 Rows.plogBlocksRow.domain false Rows.plogBlocksRow.laid) (((OpenSpec.ofChange Rows.plogBlocksSpec).at F).post enc Tryd.prog Tryd.f6 false true false false) := by
  obtain ⟨places, hx⟩ := reads os enc
  refine returnsInHanded_of_row (C := Tryd.checked) (s := OpenSpec.ofChange Rows.plogBlocksSpec) own started (by kernel_rfl) Tryd.func6
    (witness_row_at (enc := enc) (C := Tryd.checked) false (laidWorld os) #[.slice none 0 0] rfl (by kernel_rfl) (by kernel_rfl) (by kernel_rfl)
      (OpenSpec.preRow_of_cond 8 hx (by kernel_rfl) (fun k hk => by cases hk) (by kernel_rfl) (laid_met os))) ?_
  intro W base args ds gs before hval hW _ _ _ hL _ _
  exact contract H enc W base args ds gs before hval hW hL

theorem said : Rows.PlogBlocksSaid :=
  OpenClaim.holds_of_cond 6 Tryd.f6 rfl rfl rfl rfl rfl rfl rfl ⟨rfl, rfl, rfl, rfl, rfl⟩ rfl rfl rfl rfl rfl (by kernel_rfl) Tryd.func6 (by kernel_rfl)
    (of_decide_eq_true (by kernel_rfl)) (by unfold Func.isWrapper; first | (rw [if_pos (by decide +kernel)]; kernel_rfl) | (rw [if_neg (by decide +kernel)]; exact ⟨rfl, rfl⟩))
    (fun os started H enc _ F => by rw [OpenClaim.pre_eq_preRow]; exact lifted os started H enc F)

theorem plain (f : FuncId) (fn : Func) (hf : Tryd.pinned.checked.prog.funcNamed "orchard/orchardlaw06.PlogBlocks" = some f) (hfn : Tryd.pinned.checked.prog.funcs[f]? = some fn) :
    false = Tryd.pinned.checked.prog.looks [] ∧ ∀ (j : Nat) t, fn.params[j]? = some t → Tryd.pinned.checked.prog.wantsStandIn t = false := by
  obtain rfl : f = 6 := Option.some.inj ((show Tryd.prog.funcNamed "orchard/orchardlaw06.PlogBlocks" = some 6 by kernel_rfl).symm.trans hf) |>.symm
  obtain rfl : fn = Tryd.f6 := (Option.some.inj (Tryd.func6.symm.trans hfn)).symm
  refine ⟨by kernel_rfl, fun j t ht => ?_⟩
  rw [Tryd.params6] at ht
  have hm := Array.mem_of_getElem? ht
  simp at hm
  subst hm
  exact (show Tryd.prog.wantsStandIn 39 = false by kernel_rfl)

theorem card : Rows.PlogBlocksCardSaid :=
  Claim7.holds_tied_plain_at .later [] _ _ _ _ said (fun _ h => by cases h) (by kernel_rfl) (fun _ h => by cases h) plogBlocks_row_tie rfl ⟨rfl, rfl⟩ (by kernel_rfl) rfl plain (by kernel_rfl)
end Go.Proofs.YtigebaaldikeaaaDoor.plogBlocks
