/- PlogScrubs: damage is seen when it is read, Scrub sees all of it, and what is cut takes its damage along; no condition on the input (the two tables start as the program text lays them). -/
import Derived.Test.YtpkhhecmddpnmaaDoorPlogArg
import Derived.Test.YtpkhhecmddpnmaaDoorCards
import Derived.Test.YtpkhhecmddpnmaaDoorTie
import Derived.ProofKit
import Derived.OpenShut
import Derived.ShutString
import Derived.ChangeOld
import Derived.Deep.DeepHandedRow
import Derived.Lib.LaidTab
import Derived.Stop.LaidErr
namespace Go.Proofs.YtpkhhecmddpnmaaDoor.plogScrubs
open Go.ChangeShapes Go.WideShapes Go.ChangeAt Go.RowKit
open Go.ChangeMaps (open_string shut_string)
set_option linter.unusedVariables false
set_option maxRecDepth 100000
/-- The least damaged index, or 0. -/
def Lst (g : Nat → Bool) (n : Nat) (v : Int) : Prop := (v = 0 ∧ ∀ i, i < n → g i = true) ∨ ∃ i, i < n ∧ g i = false ∧ (∀ k, k < i → g k = true) ∧ v = 1 + (i : Int)
theorem Lst.none (n : Nat) : Lst yes n 0 := .inl ⟨rfl, fun _ _ => rfl⟩
theorem Lst.new {g : Nat → Bool} {n p : Nat} {v : Int} (h : Lst g n v) (hp : p < n) (hv : v = 0 ∨ 1 + (p : Int) < v) : Lst (updB g p false) n (1 + (p : Int)) := by
  right
  refine ⟨p, hp, updB_same _ _ _, fun k hk => ?_, rfl⟩
  rw [updB_other (by omega)]
  rcases h with ⟨_, h⟩ | ⟨i, _, _, h, rfl⟩
  · exact h k (by omega)
  · exact h k (by omega)
theorem Lst.old {g : Nat → Bool} {n p : Nat} {v : Int} (h : Lst g n v) (hv : v ≠ 0) (hl : ¬ 1 + (p : Int) < v) : Lst (updB g p false) n v := by
  rcases h with ⟨h0, _⟩ | ⟨i, h1, h2, h3, h4⟩
  · exact absurd h0 hv
  · right
    refine ⟨i, h1, ?_, fun k hk => ?_, h4⟩
    · by_cases e : i = p
      · rw [e, updB_same]
      · rw [updB_other e]; exact h2
    · rw [updB_other (by omega)]
      exact h3 k hk
set_option maxHeartbeats 4000000 in
theorem walk (a0 : Int) (v1 : Value) (zs : List Int) (w : World) (w0 : (Lit.int .i64 a0).wf = true) (w1 : Fts w v1 zs) (hT : Tabs w) :
    Calls Tryd.prog 13 #[.int .i64 a0, v1] w fun e w' => e = .returned (.bool true) ∧ Below w.heap.size w w' := by
  obtain ⟨a, cap, rfl, hzm, hg⟩ := id w1
  have HT := Lib.hid (fun (x : World) (hb : Below w.heap.size w x) => hT.below hb)
  obtain ⟨q0, hq0⟩ : ∃ q : Int, q = a0 % 8 := ⟨_, rfl⟩
  have h0 : bits .and .i64 a0 7 = q0 := by rw [i64_and7, hq0]
  have b0 : 0 ≤ q0 ∧ q0 ≤ 7 := by omega
  obtain ⟨n, hn⟩ : ∃ n : Nat, (n : Int) = 1 + q0 := ⟨(1 + q0).toNat, by omega⟩
  have hn1 : 1 ≤ n ∧ n ≤ 8 := by omega
  have h3 : 1 + q0 = (n : Int) := hn.symm
  clear hT hq0 hn
  unfold maxLen at hzm
  go_enter Tryd.func13, Tryd.ntmps13
  go_wp2_with fail
  refine (phead_any w HT.out).mono ?_
  rintro e w1 ⟨rfl, hb1⟩
  by_cases hz10 : 10 < zs.length
  · have hz : decide ((10 : Int) < (zs.length : Int)) = true := by simp; omega
    have hz' : decide (10 < zs.length) = true := by simpa using hz10
    clear hz10
    go_wp2_with fail
    go_ret
    exact ⟨rfl, hb1⟩
  have hz : decide ((10 : Int) < (zs.length : Int)) = false := by simp; omega
  have hz' : decide (10 < zs.length) = false := by simpa using hz10
  go_wp2_with fail
  refine (pnew_any w1 (fun x hx => HT.out x (hb1.trans (hx.mono hb1.size)))).mono ?_
  rintro e w2 ⟨wb, B, b, bt, bd, D2, E, rfl, W2, _, hw2, hbt, hnw, hb2⟩
  have HTb := Lib.hid (fun (x : World) (hx : Below w1.heap.size w1 x) => HT.out x (hb1.trans (hx.mono hb1.size)))
  clear h0 h3 hz hz'
  go_wp2_with fail
  go_loopw [6] (fun i wr => ∃ (k : Nat) (Dk : Dv), k ≤ n ∧ i = .int .i64 ((k : Int) + 1) ∧ Lw w1.heap.size E wr b B bt bd 19 3 8 1 (entsT 3 k) (10000 + k) Dk ∧ WldB wr wb B b 1 (.slice none 0 0) (.slice none 0 0) ∧ Below w1.heap.size w1 wr) (fun i _ => n + 1 - (intOf i).toNat)
  case atStart => exact ⟨0, D2, by omega, rfl, W2, hw2, hb2⟩
  case round =>
    obtain ⟨k, Dk, hk, rfl, Wk, Vk, Bk⟩ := hrel
    clear W2 hw2 hb2
    obtain ⟨v0, v1, _⟩ := Vk.cells.1
    by_cases hlt : k < n
    · have hlt' : (k : Int) + 1 ≤ (n : Int) := by omega
      have hk0 : (0 : Int) ≤ (k : Int) := by omega
      have HA := Lib.hid (lw_append1 Wk (by decide) ⟨(k : Int) + 1, 3, ⟨#[]⟩⟩ (by rw [entsT_length]; show (k : Int) + 1 = 1 + (k : Int); omega) rfl (by rw [entsT_length]; omega) Bk.size (fun y hy => HTb.out y (Bk.trans hy)) (by omega))
      rw [← entsT_succ] at HA
      go_wp2_with fail
      refine HA.out.mono ?_
      rintro e w3 ⟨rfl, ⟨D3, W3, _⟩, hb3, hk3⟩
      have V3 := Vk.keep hk3 hbt
      have B3 := Bk.trans hb3
      clear HA hb3 hk3 Wk Vk Bk v0 v1
      go_wp2_with fail
      go_roundw
      case rel => exact ⟨k + 1, D3, by omega, by go_num, W3, V3, B3⟩
      case measure => simp [intOf]; omega
    · obtain rfl : k = n := by omega
      obtain ⟨T, hW, hN, hS⟩ := Wk
      have hlen := entsT_length 3 k
      have H0 := hN.harmd
      have HS := Lib.hid hS
      have HL := Lib.hid hlen
      clear hN hS hlen
      go_wp2_with fail
      go_loopw [7, 38] (fun l i wx => ∃ (m : Nat) (g : Nat → Bool) (Dm : Dv) (lv : Int), m ≤ zs.length ∧ i = .int .i64 m ∧ l = .int .i64 lv ∧ LogW w1.heap.size E wx b B bt bd Dm ⟨3, 8, 1, ((entsT 3 k).length : Int)⟩ (10000 + k) T (fun _ => false) ∧ Harmd Dm ⟨3, 8, 1, ((entsT 3 k).length : Int)⟩ (entsT 3 k) g yes 19 ∧ Hid (Lst g k lv) ∧ WldB wx wb B b 1 (.slice none 0 0) (.slice none 0 0) ∧ Below w1.heap.size w1 wx) (fun _ i _ => zs.length - (intOf i).toNat)
      case atStart => exact ⟨0, yes, Dk, 0, by omega, rfl, rfl, hW, H0, Lst.none k, Vk, Bk⟩
      case round =>
        obtain ⟨m, g, Dm, lv, hm, rfl, rfl, Wm, Hm, HLS, Vm, Bm⟩ := hrel
        clear hW H0 Vk Bk v0 v1
        obtain ⟨t0, t1, _⟩ := Vm.cells.1
        by_cases hmz : m < zs.length
        · have hm0 : (0 : Int) ≤ (m : Int) := by omega
          have hmz' : (m : Int) < (zs.length : Int) := by omega
          rcases hg with h0 | ⟨gz, off, rfl, hgz, hcell⟩
          · omega
          have hcm : wr.cell? ⟨gz, off + m, none⟩ = some (.int .i64 (zs.getD m 0)) := by
            have e := (hb1.trans (Bm.mono hb1.size)).block gz hgz
            rw [cell_kept e]
            exact hcell m hmz
          obtain ⟨z, hz⟩ : ∃ z, z = zs.getD m 0 := ⟨_, rfl⟩
          rw [← hz] at hcm
          obtain ⟨q1, hq1⟩ : ∃ q : Int, q = z % 256 := ⟨_, rfl⟩
          have h1 : bits .and .i64 z 255 = q1 := by rw [i64_and255, hq1]
          have b1 : 0 ≤ q1 ∧ q1 ≤ 255 := by omega
          obtain ⟨p, hp⟩ : ∃ p : Nat, (p : Int) = q1 % (k : Int) := ⟨(q1 % (k : Int)).toNat, by have := Int.emod_nonneg q1 (show (k : Int) ≠ 0 by omega); omega⟩
          have hpn : p < k := by have := Int.emod_lt_of_pos q1 (show (0 : Int) < (k : Int) by omega); omega
          have h4 : q1 % (k : Int) = (p : Int) := hp.symm
          have h4' : q1.tmod (k : Int) = (p : Int) := by rw [Int.tmod_eq_emod_of_nonneg b1.1]; exact h4
          have hx : (entsT 3 k)[p]? = some ⟨(p : Int) + 1, 3, ⟨#[]⟩⟩ := entsT_at hpn
          have H1 := Hm.hit2 hx (hits_lose _)
          have hblk : (⟨3, 8, 1, ((entsT 3 k).length : Int)⟩ : Lg).blk 2 ((p : Int) + 1) = 3 + (1 + (p : Int)) % 8 := by
            unfold Lg.blk
            rw [if_neg (by decide)]
            show (3 : Int) + ((p : Int) + 1) % 8 + 0 = _
            rw [Int.add_comm (p : Int) 1]
            omega
          simp only at H1
          rw [hblk] at H1
          have hp0 : (0 : Int) ≤ (p : Int) := by omega
          have hp8 : (p : Int) ≤ 8 := by omega
          have hlv : 0 ≤ lv ∧ lv ≤ 9 := by
            rcases HLS.out with ⟨h, _⟩ | ⟨i, hi, _, _, h⟩ <;> omega
          clear hx hblk hz hq1 hp
          go_wp2_with fail
          refine (devw_lose _ Bm.size Wm.dev).mono ?_
          rintro e w3 ⟨rfl, X3, hb3, hk3⟩
          have W3 := Wm.turn X3 hk3
          have V3 := Vm.keep hk3 hbt.1
          have B3 := Bm.trans hb3
          clear Wm X3 hb3 hk3 Vm Bm t0 t1 hcm h1 h4 h4' Hm
          by_cases hl0 : lv = 0
          · have HNEW := Lib.hid (HLS.out.new hpn (.inl hl0))
            subst hl0
            go_wp2_with fail
            go_roundw
            case rel => exact ⟨m + 1, updB g p false, _, 1 + (p : Int), by omega, by go_num, rfl, W3, H1, HNEW.out, V3, B3⟩
            case measure => simp [intOf]; omega
          · have el0 : (lv == 0) = false := by simpa using hl0
            by_cases hl1 : 1 + (p : Int) < lv
            · have HNEW := Lib.hid (HLS.out.new hpn (.inr hl1))
              clear hl0
              go_wp2_with fail
              go_roundw
              case rel => exact ⟨m + 1, updB g p false, _, 1 + (p : Int), by omega, by go_num, rfl, W3, H1, HNEW.out, V3, B3⟩
              case measure => simp [intOf]; omega
            · have HNEW := Lib.hid (HLS.out.old hl0 hl1)
              clear hl0
              go_wp2_with fail
              go_roundw
              case rel => exact ⟨m + 1, updB g p false, _, lv, by omega, by go_num, rfl, W3, H1, HNEW.out, V3, B3⟩
              case measure => simp [intOf]; omega
        · obtain rfl : m = zs.length := by omega
          have hlv : 0 ≤ lv ∧ lv ≤ 9 := by
            rcases HLS.out with ⟨h, _⟩ | ⟨i, hi, _, _, h⟩ <;> omega
          have HH3 := Lib.hid (phurt_is Wm (IsMin.empty _ (fun z _ => rfl)) (fun z _ h => by cases h))
          have HMIN : Hid (IsMin (HH 1 g (entsT 3 k).length) lv) := hh_min (by rw [HL.out]; omega) (by rw [HL.out]; exact HLS.out)
          have HHP := Lib.hid (HH_pos (f := 1) (j := (entsT 3 k).length) (g := g) (by decide))
          clear hg
          go_wp2_with fail
          refine (HH3.out _ (Below.refl _ _)).mono ?_
          rintro e w3 ⟨rfl, hb3⟩
          have W3 := Wm.below hb3
          have V3 := Vm.below hb3
          have B3 := Bm.trans (hb3.mono Bm.size)
          obtain ⟨u0, u1, _⟩ := V3.cells.1
          clear hb3 Wm Vm Bm t0 t1 HH3
          go_wp2_with fail
          refine (lo_scrub W3 Hm HS.out (by decide) B3.size (fun y hy => HTb.out y (B3.trans hy)) (by omega)).mono ?_
          rintro e w4 ⟨rfl, W4, hb4, hk4⟩
          have V4 := V3.keep hk4 hbt
          have B4 := B3.trans hb4
          obtain ⟨s0, s1, _⟩ := V4.cells.1
          clear hb4 hk4 W3 V3 B3 u0 u1
          have HH4 := Lib.hid (phurt_is W4 HMIN.out HHP.out)
          go_wp2_with fail
          refine (HH4.out _ (Below.refl _ _)).mono ?_
          rintro e w5 ⟨rfl, hb5⟩
          have W5 := W4.below hb5
          have V5 := V4.below hb5
          have B5 := B4.trans (hb5.mono B4.size)
          obtain ⟨x0, x1, _⟩ := V5.cells.1
          clear hb5 W4 V4 B4 s0 s1 HH4
          have HL5 := Lib.hid (lo_last W5 (by omega) (by rw [HL.out]; omega) (k : Int) (by rw [HL.out]; omega))
          go_wp2_with fail
          refine (HL5.out _ (Below.refl _ _)).mono ?_
          rintro e w6 ⟨rfl, hb6⟩
          have W6 := W5.below hb6
          have V6 := V5.below hb6
          have B6 := B5.trans (hb6.mono B5.size)
          obtain ⟨y0, y1, _⟩ := V6.cells.1
          clear hb6 W5 V5 B5 x0 x1 HL5
          rcases HLS.out with ⟨rfl, _⟩ | ⟨i, hi, _, hgi, rfl⟩
          · clear HLS HMIN
            go_wp2_with fail
            go_ret
            exact ⟨rfl, hb1.trans (B6.mono hb1.size)⟩
          · have hi0 : (0 : Int) ≤ (i : Int) := by omega
            have hi8 : (i : Int) ≤ 8 := by omega
            have hgt : 0 < 1 + (i : Int) := by omega
            have HG := Lib.hid hgi
            clear HLS HMIN hgi
            go_wp2_with fail
            refine (lo_cut W6 Hm (by decide) i (by rw [HL.out]; omega) rfl B6.size (fun y hy => HTb.out y (B6.trans hy))).mono ?_
            rintro e w7 ⟨rfl, ⟨D7, W7⟩, hb7, hk7⟩
            have hS7 : cutS (HH 1 g (entsT 3 k).length) (1 + (i : Int)) ((entsT 3 k).length - i) = fun _ => false := HH_cut HG.out
            rw [hS7] at W7
            have V7 := V6.keep hk7 hbt
            have B7 := B6.trans hb7
            obtain ⟨z0, z1, _⟩ := V7.cells.1
            clear hS7 hb7 hk7 W6 V6 B6 y0 y1
            have HH7 := Lib.hid (phurt_is W7 (IsMin.empty _ (fun z _ => rfl)) (fun z _ h => by cases h))
            have HL7 := Lib.hid (lo_last W7 (by omega) (by rw [List.length_take, HL.out]; omega) (i : Int) (by rw [List.length_take, HL.out]; omega))
            go_wp2_with fail
            refine (HH7.out _ (Below.refl _ _)).mono ?_
            rintro e w8 ⟨rfl, hb8⟩
            have c1 : w8.cell? ⟨wb, 1, none⟩ = some (.pointer (some ⟨b, 0, none⟩)) := (V7.below hb8).cells.1.2.1
            go_wp2_with fail
            refine (HL7.out _ hb8).mono ?_
            rintro e w9 ⟨rfl, hb9⟩
            have b9 := hb8.trans (hb9.mono hb8.size)
            go_wp2_with fail
            go_ret
            exact ⟨rfl, hb1.trans ((B7.trans (b9.mono B7.size)).mono hb1.size)⟩

theorem own : ownKnob Tryd.prog.godebug = none := by kernel_rfl
theorem laidOut : laidOutB Tryd.prog = true := by kernel_rfl
theorem gHi : Tryd.prog.globalNamed "orchard/sum.highTable" = some 0 := by kernel_rfl
theorem gLo : Tryd.prog.globalNamed "orchard/sum.lowTable" = some 1 := by kernel_rfl
theorem gHiType : (Tryd.prog.globals[0]?).map (·.type) = some 165 := by kernel_rfl
theorem gLoType : (Tryd.prog.globals[1]?).map (·.type) = some 165 := by kernel_rfl
theorem cellsTab : Tryd.prog.cellsOf 165 = 16 := by kernel_rfl
theorem cellsSum : Tryd.prog.cellsOf 158 = 1 := by kernel_rfl

theorem table_lo {W : World} (h : laidMetH Tryd.prog Rows.plogScrubsRow.laid W) : Lib.TabIs Tryd.prog W "orchard/sum.lowTable" .u32 LO :=
  Lib.tabIs_of_head (rest := [("orchard/sum.highTable", Rows.laid_orchard_sum_highTable)]) gLo gLoType Tryd.underlying165 Tryd.underlying158 cellsSum cellsTab h
theorem table_hi {W : World} (h : laidMetH Tryd.prog Rows.plogScrubsRow.laid W) : Lib.TabIs Tryd.prog W "orchard/sum.highTable" .u32 HI :=
  Lib.tabIs_of_head (rest := []) gHi gHiType Tryd.underlying165 Tryd.underlying158 cellsSum cellsTab (laidMet.tail (show laidMet Tryd.prog [("orchard/sum.lowTable", Rows.laid_orchard_sum_lowTable), ("orchard/sum.highTable", Rows.laid_orchard_sum_highTable)] W from h))
theorem tabs_of {W : World} (h : laidMetH Tryd.prog Rows.plogScrubsRow.laid W) : Tabs W := by
  have c0 := fun (j : Nat) (hj : j < 16) => (table_hi h).cell gHi j hj
  have c1 := fun (j : Nat) (hj : j < 16) => (table_lo h).cell gLo j hj
  refine ⟨⟨World.block_lt_of_cell? W _ (c0 0 (by decide)), World.block_lt_of_cell? W _ (c1 0 (by decide))⟩, fun j hj => ?_, fun j hj => ?_⟩
  · rw [c0 j hj, hi_cast j]
  · rw [c1 j hj, lo_cast j]

theorem contract (H : Type) (enc : TypeId × Value → H) (W : World) (base : Nat) (args : Array Value) (ds gs : List (DataW H)) (before : List MemPlace)
    (hval : ∀ (j : Nat) t v, Tryd.f13.params[j]? = some t → args[j]? = some v → Value.okWide Tryd.prog W .any base t v)
    (hW : DataW.Whole enc Tryd.prog Tryd.f13.params.toList Rows.plogScrubsSpec.vars false W args.toList ds gs before) (hL : laidMetH Tryd.prog Rows.plogScrubsRow.laid W) :
    Calls Tryd.prog 13 args W fun e W' => ∃ v, e = .returned v ∧ Rows.plogScrubsSpec.post enc Tryd.prog Tryd.f13 false true false false W args v W' := by
  have hT := tabs_of hL
  have hW' := hW
  obtain ⟨p, q, hA0, hV, rfl, hfz, hnd⟩ := hW
  have hA : DataW.TrodAll enc Tryd.prog W 0 (fun _ => true) true Tryd.f13.params.toList args.toList ds p := hA0
  rw [Tryd.params13] at hA hval
  obtain ⟨v0, vs0, d0, ds0, p0, q0, hargs, rfl, rfl, h0, r0⟩ := trodAll_cons hA
  obtain ⟨v1, vs1, d1, ds1, p1, q1, rfl, rfl, rfl, h1, r1⟩ := trodAll_cons r0
  obtain ⟨rfl, rfl, rfl⟩ := trodAll_nil r1
  obtain rfl : args = #[v0, v1] := by cases args; simp_all
  obtain ⟨rfl, rfl⟩ := trodVars_none hV
  obtain ⟨a0, rfl, rfl, rfl, w0⟩ := open_int Tryd.underlying3 (hval 0 3 v0 rfl rfl) h0
  have k1 := h1
  have lt1 : ∀ x ∈ p1, x.block < W.heap.size := by obtain ⟨m, hm⟩ := k1; exact DataW.trod_lt m _ _ _ hm
  obtain ⟨z1, w1⟩ := ints_of (hval 1 87 v1 rfl rfl) h1
  clear hA0
  refine (walk a0 v1 z1 W w0 w1 hT).mono fun e W' ⟨he, bel⟩ => ?_
  subst he
  exact ⟨_, rfl, _, _, _, [], _, [], hW', trodAll_mk1 (shut_bool Tryd.underlying4 _), (trodAll_cons_mk (shut_int Tryd.underlying3 w0) (trodAll_cons_mk (Below.trod laidOut (by kernel_rfl) (of_decide_eq_true (by kernel_rfl)) k1 bel lt1) trodAll_mk0)), rfl, bel.frame _, fun h => by cases h⟩

def setTab (l : List Int) : Obj → Obj
  | .cells _ t frozen => .cells (l.map (Value.int .u32)).toArray t frozen
  | o => o
noncomputable def laidWorld (os : Os) : World :=
  { World.holding Tryd.prog os ⟨#[], #[], []⟩ with heap := ((World.holding Tryd.prog os ⟨#[], #[], []⟩).heap.modify 1 (setTab LO)).modify 0 (setTab HI) }
theorem laid_met (os : Os) : laidMet Tryd.prog Rows.plogScrubsRow.laid ((laidWorld os).forCall (fun _ _ => 0) ⟨#[], #[.int .i64 0, .slice none 0 0], []⟩).memory :=
  laidMet_of_run' 8 (by kernel_rfl) (by kernel_rfl)
theorem reads (os : Os) {H : Type} (enc : TypeId × Value → H) : ∃ places, DataW.whole enc Tryd.prog ((laidWorld os).forCall (fun _ _ => 0) ⟨#[], #[.int .i64 0, .slice none 0 0], []⟩).memory Tryd.f13.params.toList Rows.plogScrubsSpec.vars false #[Value.int .i64 0, Value.slice none 0 0].toList 8 = some ([.lit (.int .i64 0), .nil], [], places) :=
  ⟨[], by kernel_rfl⟩

set_option maxRecDepth 100000 in
theorem lifted (os : Os) (started : os.Started) (H : Type) (enc : TypeId × Value → H) (F : Stop.Interp) :
    ReturnsInHanded {} Tryd.checked os 13 .any ((OpenSpec.ofChange Rows.plogScrubsSpec).preRow enc Tryd.prog Tryd.f13 Rows.plogScrubsRow.domain false Rows.plogScrubsRow.laid) (((OpenSpec.ofChange Rows.plogScrubsSpec).at F).post enc Tryd.prog Tryd.f13 false true false false) := by
  obtain ⟨places, hx⟩ := reads os enc
  refine returnsInHanded_of_row (C := Tryd.checked) (s := OpenSpec.ofChange Rows.plogScrubsSpec) own started (by kernel_rfl) Tryd.func13
    (witness_row_at (enc := enc) (C := Tryd.checked) false (laidWorld os) #[.int .i64 0, .slice none 0 0] rfl (by kernel_rfl) (by kernel_rfl) (by kernel_rfl)
      (OpenSpec.preRow_of_cond 8 hx (by kernel_rfl) (fun k hk => by cases hk) (by kernel_rfl) (laid_met os))) ?_
  intro W base args ds gs before hval hW _ _ _ hL _ _
  exact contract H enc W base args ds gs before hval hW hL

theorem said : Rows.PlogScrubsSaid :=
  OpenClaim.holds_of_cond 13 Tryd.f13 rfl rfl rfl rfl rfl rfl rfl ⟨rfl, rfl, rfl, rfl, rfl⟩ rfl rfl rfl rfl rfl (by kernel_rfl) Tryd.func13 (by kernel_rfl)
    (of_decide_eq_true (by kernel_rfl)) (by unfold Func.isWrapper; first | (rw [if_pos (by decide +kernel)]; kernel_rfl) | (rw [if_neg (by decide +kernel)]; exact ⟨rfl, rfl⟩))
    (fun os started H enc _ F => by rw [OpenClaim.pre_eq_preRow]; exact lifted os started H enc F)

theorem plain (f : FuncId) (fn : Func) (hf : Tryd.pinned.checked.prog.funcNamed "orchard/orchardlaw06.PlogScrubs" = some f) (hfn : Tryd.pinned.checked.prog.funcs[f]? = some fn) :
    false = Tryd.pinned.checked.prog.looks [] ∧ ∀ (j : Nat) t, fn.params[j]? = some t → Tryd.pinned.checked.prog.wantsStandIn t = false := by
  obtain rfl : f = 13 := Option.some.inj ((show Tryd.prog.funcNamed "orchard/orchardlaw06.PlogScrubs" = some 13 by kernel_rfl).symm.trans hf) |>.symm
  obtain rfl : fn = Tryd.f13 := (Option.some.inj (Tryd.func13.symm.trans hfn)).symm
  refine ⟨by kernel_rfl, fun j t ht => ?_⟩
  rw [Tryd.params13] at ht
  have hm := Array.mem_of_getElem? ht
  simp at hm
  rcases hm with rfl | rfl
  · exact (show Tryd.prog.wantsStandIn 3 = false by kernel_rfl)
  · exact (show Tryd.prog.wantsStandIn 87 = false by kernel_rfl)

theorem card : Rows.PlogScrubsCardSaid :=
  Claim7.holds_tied_plain_at .later [] _ _ _ _ said (fun _ h => by cases h) (by kernel_rfl) (fun _ h => by cases h) plogScrubs_row_tie rfl ⟨rfl, rfl⟩ (by kernel_rfl) rfl plain (by kernel_rfl)
end Go.Proofs.YtpkhhecmddpnmaaDoor.plogScrubs
