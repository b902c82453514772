/- PlogDrops: entries that are dropped take their damage along; no condition on the input (the two tables start as the program text lays them). -/
import Derived.Test.YtpkhhecmddpnmaaDoorPlogLo
import Derived.Test.YtpkhhecmddpnmaaDoorCards
import Derived.Test.YtpkhhecmddpnmaaDoorTie
import Derived.ProofKit
import Derived.OpenShut
import Derived.ShutString
import Derived.ChangeOld
import Derived.Deep.DeepHandedRow
import Derived.Lib.LaidTab
import Derived.Stop.LaidErr
namespace Go.Proofs.YtpkhhecmddpnmaaDoor.plogDrops
open Go.ChangeShapes Go.WideShapes Go.ChangeAt Go.RowKit
open Go.ChangeMaps (open_string shut_string)
set_option linter.unusedVariables false
set_option maxRecDepth 100000
set_option maxHeartbeats 4000000 in
theorem walk (a0 a1 a2 : Int) (w : World) (w0 : (Lit.int .i64 a0).wf = true) (w1 : (Lit.int .i64 a1).wf = true) (w2 : (Lit.int .i64 a2).wf = true) (hT : Tabs w) :
    Calls Tryd.prog 14 #[.int .i64 a0, .int .i64 a1, .int .i64 a2] w fun e w' => e = .returned (.bool true) ∧ Below w.heap.size w w' := by
  have HT := Lib.hid (fun (x : World) (hb : Below w.heap.size w x) => hT.below hb)
  obtain ⟨q0, hq0⟩ : ∃ q : Int, q = a0 % 8 := ⟨_, rfl⟩
  obtain ⟨q1, hq1⟩ : ∃ q : Int, q = a1 % 256 := ⟨_, rfl⟩
  obtain ⟨q2, hq2⟩ : ∃ q : Int, q = a2 % 256 := ⟨_, rfl⟩
  have h0 : bits .and .i64 a0 7 = q0 := by rw [i64_and7, hq0]
  have h1 : bits .and .i64 a1 255 = q1 := by rw [i64_and255, hq1]
  have h2 : bits .and .i64 a2 255 = q2 := by rw [i64_and255, hq2]
  have b0 : 0 ≤ q0 ∧ q0 ≤ 7 := by omega
  have b1 : 0 ≤ q1 ∧ q1 ≤ 255 := by omega
  have b2 : 0 ≤ q2 ∧ q2 ≤ 255 := by omega
  obtain ⟨n, hn⟩ : ∃ n : Nat, (n : Int) = 1 + q0 := ⟨(1 + q0).toNat, by omega⟩
  have hn1 : 1 ≤ n ∧ n ≤ 8 := by omega
  obtain ⟨p, hp⟩ : ∃ p : Nat, (p : Int) = q1 % (n : Int) := ⟨(q1 % (n : Int)).toNat, by have := Int.emod_nonneg q1 (show (n : Int) ≠ 0 by omega); omega⟩
  have hpn : p < n := by have := Int.emod_lt_of_pos q1 (show (0 : Int) < (n : Int) by omega); omega
  obtain ⟨c, hc⟩ : ∃ c : Nat, (c : Int) = q2 % ((n : Int) + 1) := ⟨(q2 % ((n : Int) + 1)).toNat, by have := Int.emod_nonneg q2 (show (n : Int) + 1 ≠ 0 by omega); omega⟩
  have hcn : c ≤ n := by have := Int.emod_lt_of_pos q2 (show (0 : Int) < (n : Int) + 1 by omega); omega
  have h3 : 1 + q0 = (n : Int) := hn.symm
  have h4 : q1 % (n : Int) = (p : Int) := hp.symm
  have h4' : q1.tmod (n : Int) = (p : Int) := by rw [Int.tmod_eq_emod_of_nonneg b1.1]; exact h4
  have h5 : q2 % ((n : Int) + 1) = (c : Int) := hc.symm
  have h5' : q2.tmod ((n : Int) + 1) = (c : Int) := by rw [Int.tmod_eq_emod_of_nonneg b2.1]; exact h5
  clear hT hq0 hq1 hq2 hn hp hc
  go_enter Tryd.func14, Tryd.ntmps14
  go_wp2_with fail
  refine (phead_any w HT.out).mono ?_
  rintro e w1 ⟨rfl, hb1⟩
  go_wp2_with fail
  refine (pnew_any w1 (fun x hx => HT.out x (hb1.trans (hx.mono hb1.size)))).mono ?_
  rintro e w2 ⟨wb, B, b, bt, bd, D2, E, rfl, W2, _, hw2, hbt, hnw, hb2⟩
  have HTb := Lib.hid (fun (x : World) (hx : Below w1.heap.size w1 x) => HT.out x (hb1.trans (hx.mono hb1.size)))
  clear h0 h1 h2 h3 h4 h4' h5 h5'
  go_wp2_with fail
  go_loopw [8] (fun i wr => ∃ (k : Nat) (Dk : Dv), k ≤ n ∧ i = .int .i64 ((k : Int) + 1) ∧ Lw w1.heap.size E wr b B bt bd 19 3 8 1 (entsT 3 k) (10000 + k) Dk ∧ WldB wr wb B b 1 (.slice none 0 0) (.slice none 0 0) ∧ Below w1.heap.size w1 wr) (fun i _ => n + 1 - (intOf i).toNat)
  case atStart => exact ⟨0, D2, by omega, rfl, W2, hw2, hb2⟩
  case round =>
    obtain ⟨k, Dk, hk, rfl, Wk, Vk, Bk⟩ := hrel
    clear W2 hw2 hb2
    obtain ⟨v0, v1, _⟩ := Vk.cells.1
    by_cases hlt : k < n
    · have hlt' : (k : Int) + 1 ≤ (n : Int) := by omega
      have hk0 : (0 : Int) ≤ (k : Int) := by omega
      have HA := Lib.hid (lw_append1 Wk (by decide) ⟨(k : Int) + 1, 3, ⟨#[]⟩⟩ (by rw [entsT_length]; show (k : Int) + 1 = 1 + (k : Int); omega) rfl (by rw [entsT_length]; omega) Bk.size (fun y hy => HTb.out y (Bk.trans hy)) (by omega))
      rw [← entsT_succ] at HA
      go_wp2_with fail
      refine HA.out.mono ?_
      rintro e w3 ⟨rfl, ⟨D3, W3, _⟩, hb3, hk3⟩
      have V3 := Vk.keep hk3 hbt
      have B3 := Bk.trans hb3
      clear HA hb3 hk3 Wk Vk Bk v0 v1
      go_wp2_with fail
      go_roundw
      case rel => exact ⟨k + 1, D3, by omega, by go_num, W3, V3, B3⟩
      case measure => simp [intOf]; omega
    · obtain rfl : k = n := by omega
      obtain ⟨T, hW, hN, hS⟩ := Wk
      have hlen := entsT_length 3 k
      have hx : (entsT 3 k)[p]? = some ⟨(p : Int) + 1, 3, ⟨#[]⟩⟩ := entsT_at hpn
      have H1 := hN.harmd.hit2 hx (hits_lose _)
      have hblk : (⟨3, 8, 1, ((entsT 3 k).length : Int)⟩ : Lg).blk 2 ((p : Int) + 1) = 3 + (1 + (p : Int)) % 8 := by
        unfold Lg.blk
        rw [if_neg (by decide)]
        show (3 : Int) + ((p : Int) + 1) % 8 + 0 = _
        rw [Int.add_comm (p : Int) 1]
        omega
      simp only at H1
      rw [hblk] at H1
      have HX := Lib.hid hx
      have HS := Lib.hid hS
      have HL := Lib.hid hlen
      have hp0 : (0 : Int) ≤ (p : Int) := by omega
      have hc0 : (0 : Int) ≤ (c : Int) := by omega
      have hp8 : (p : Int) ≤ 8 := by omega
      have hc8 : (c : Int) ≤ 8 := by omega
      clear hx hblk hN hS hlen
      go_wp2_with fail
      refine (devw_lose _ Bk.size hW.dev).mono ?_
      rintro e w3 ⟨rfl, X3, hb3, hk3⟩
      have W3 := hW.turn X3 hk3
      have V3 := Vk.keep hk3 hbt.1
      have B3 := Bk.trans hb3
      obtain ⟨t0, t1, _⟩ := V3.cells.1
      clear hW X3 hb3 hk3 Vk Bk v0 v1
      go_wp2_with fail
      refine (lo_scrub W3 H1 HS.out (by decide) B3.size (fun y hy => HTb.out y (B3.trans hy)) (by omega)).mono ?_
      rintro e w4 ⟨rfl, W4, hb4, hk4⟩
      have V4 := V3.keep hk4 hbt
      have B4 := B3.trans hb4
      obtain ⟨u0, u1, _⟩ := V4.cells.1
      clear hb4 hk4 W3 V3 B3 t0 t1
      go_wp2_with fail
      refine (lo_drop W4 (ho_fit H1.geo H1.ents (by decide)) c (by rw [HL.out]; exact hcn) rfl B4.size).mono ?_
      rintro e w5 ⟨rfl, W5, hb5, hk5⟩
      have V5 := V4.keep hk5 hbt
      have B5 := B4.trans hb5
      obtain ⟨s0, s1, _⟩ := V5.cells.1
      clear hb5 hk5 W4 V4 B4 u0 u1
      have HF5 := Lib.hid (pfirst_any W5.log)
      have HL5 := Lib.hid (lo_last W5 (by omega) (by rw [List.length_drop, HL.out]; omega) (k : Int) (by rw [List.length_drop, HL.out]; omega))
      go_wp2_with fail
      refine HF5.out.mono ?_
      rintro e w6 ⟨rfl, rfl⟩
      go_wp2_with fail
      refine (HL5.out _ (Below.refl _ _)).mono ?_
      rintro e w6 ⟨rfl, hb6⟩
      have W6 := W5.below hb6
      have V6 := V5.below hb6
      have B6 := B5.trans (hb6.mono B5.size)
      obtain ⟨z0, z1, _⟩ := V6.cells.1
      clear hb6 W5 V5 B5 s0 s1 HF5 HL5
      have H2 := H1.drop (f := 1 + (c : Int)) (by show (1 : Int) ≤ 1 + (c : Int); omega) (by show 1 + (c : Int) ≤ 1 + ((entsT 3 k).length : Int); rw [HL.out]; omega) (by show 1 + (c : Int) + 8 ≤ _; omega)
      have e1 : (1 + (c : Int) - 1).toNat = c := by omega
      have e2 : ((entsT 3 k).length : Int) - (1 + (c : Int) - 1) = (((entsT 3 k).drop c).length : Int) := by rw [List.length_drop, HL.out]; omega
      simp only at H2
      rw [e1, e2] at H2
      have hdl : ((entsT 3 k).drop c).length = k - c := by rw [List.length_drop, HL.out]
      have HD := Lib.hid hdl
      have hS5 : cutS (HH 1 (updB yes p false) (entsT 3 k).length) 1 c = HH (1 + (c : Int)) (fun i => updB yes p false (c + i)) (k - c) := by rw [HL.out]; exact HH_drop hcn
      rw [hS5] at W6
      have hfit : 1 ≤ 1 + (c : Int) ∧ 1 + (c : Int) + ((k - c : Nat) : Int) ≤ 9223372036854775807 := by omega
      have HHP := Lib.hid (HH_pos (f := 1 + (c : Int)) (j := k - c) (g := fun i => updB yes p false (c + i)) (by omega))
      clear e1 e2 hdl hS5 H1
      obtain ⟨v, hv⟩ : ∃ v : Int, v = if c ≤ p then 1 + (p : Int) else 0 := ⟨_, rfl⟩
      have hmin : IsMin (HH (1 + (c : Int)) (fun i => updB yes p false (c + i)) (k - c)) v := by
        refine hh_min hfit ?_
        by_cases hcp : c ≤ p
        · right
          refine ⟨p - c, by omega, ?_, fun i hi => ?_, by rw [hv, if_pos hcp]; omega⟩
          · show updB yes p false (c + (p - c)) = false
            rw [show c + (p - c) = p by omega, updB_same]
          · show updB yes p false (c + i) = true
            rw [updB_other (by omega)]
        · left
          refine ⟨by rw [hv, if_neg hcp], fun i hi => ?_⟩
          show updB yes p false (c + i) = true
          rw [updB_other (by omega)]
      have HMIN := Lib.hid hmin
      have HVV := Lib.hid hv
      clear hmin hfit hv
      by_cases hcp : c ≤ p
      all_goals
        have hv2 : (if c ≤ p then 1 + (p : Int) else 0) = v := HVV.out.symm
      · have hcp' : 1 + (c : Int) ≤ 1 + (p : Int) := by omega
        rw [if_pos hcp] at hv2
        subst hv2
        clear HVV
        go_wp2_with fail
        refine (lo_open (base := 3) (sz := 8) (first := 1 + (c : Int)) (xs := (entsT 3 k).drop c) (M := 19) W6.dev H2 (by decide) B6.size (fun y hy => HTb.out y (B6.trans hy))).mono ?_
        rintro e w7 ⟨d, dt, dd, D7, rfl, W7, H7, fr, _, hb7, hk7, hs7⟩
        have B7 := B6.trans hb7
        have W7o := W6.turn (W7.dev.less (fun j hj => .inl hj)) hk7
        have V7 := V6.keep hk7 hbt.1
        obtain ⟨o0, o1, _⟩ := V7.cells.1
        have HH7 := Lib.hid (phurt_is W7o HMIN.out HHP.out)
        rw [HD.out] at W7
        have HH8 := Lib.hid (phurt_is W7 HMIN.out HHP.out)
        have HL8 := Lib.hid (lo_last (xs := (entsT 3 k).drop c) (by rw [HD.out]; exact W7) (by omega) (by rw [HD.out]; omega) (k : Int) (by rw [HD.out]; omega))
        clear z0 z1 W6 V6 B6 hb7 hk7 hs7 fr W7o V7
        go_wp2_with fail
        refine (HH7.out _ (Below.refl _ _)).mono ?_
        rintro e w8 ⟨rfl, hb8⟩
        go_wp2_with fail
        refine (HH8.out _ hb8).mono ?_
        rintro e w9 ⟨rfl, hb9⟩
        have b9 := hb8.trans (hb9.mono hb8.size)
        go_wp2_with fail
        refine (HL8.out _ b9).mono ?_
        rintro e w10 ⟨rfl, hb10⟩
        have b10 := b9.trans (hb10.mono b9.size)
        go_wp2_with fail
        go_ret
        exact ⟨rfl, hb1.trans ((B7.trans (b10.mono B7.size)).mono hb1.size)⟩
      · have hcp' : ¬ 1 + (c : Int) ≤ 1 + (p : Int) := by omega
        rw [if_neg hcp] at hv2
        subst hv2
        clear HVV
        go_wp2_with fail
        refine (lo_open (base := 3) (sz := 8) (first := 1 + (c : Int)) (xs := (entsT 3 k).drop c) (M := 19) W6.dev H2 (by decide) B6.size (fun y hy => HTb.out y (B6.trans hy))).mono ?_
        rintro e w7 ⟨d, dt, dd, D7, rfl, W7, H7, fr, _, hb7, hk7, hs7⟩
        have B7 := B6.trans hb7
        have W7o := W6.turn (W7.dev.less (fun j hj => .inl hj)) hk7
        have V7 := V6.keep hk7 hbt.1
        obtain ⟨o0, o1, _⟩ := V7.cells.1
        have HH7 := Lib.hid (phurt_is W7o HMIN.out HHP.out)
        rw [HD.out] at W7
        have HH8 := Lib.hid (phurt_is W7 HMIN.out HHP.out)
        have HL8 := Lib.hid (lo_last (xs := (entsT 3 k).drop c) (by rw [HD.out]; exact W7) (by omega) (by rw [HD.out]; omega) (k : Int) (by rw [HD.out]; omega))
        clear z0 z1 W6 V6 B6 hb7 hk7 hs7 fr W7o V7
        go_wp2_with fail
        refine (HH7.out _ (Below.refl _ _)).mono ?_
        rintro e w8 ⟨rfl, hb8⟩
        go_wp2_with fail
        refine (HH8.out _ hb8).mono ?_
        rintro e w9 ⟨rfl, hb9⟩
        have b9 := hb8.trans (hb9.mono hb8.size)
        go_wp2_with fail
        refine (HL8.out _ b9).mono ?_
        rintro e w10 ⟨rfl, hb10⟩
        have b10 := b9.trans (hb10.mono b9.size)
        go_wp2_with fail
        go_ret
        exact ⟨rfl, hb1.trans ((B7.trans (b10.mono B7.size)).mono hb1.size)⟩

theorem own : ownKnob Tryd.prog.godebug = none := by kernel_rfl
theorem laidOut : laidOutB Tryd.prog = true := by kernel_rfl
theorem gHi : Tryd.prog.globalNamed "orchard/sum.highTable" = some 0 := by kernel_rfl
theorem gLo : Tryd.prog.globalNamed "orchard/sum.lowTable" = some 1 := by kernel_rfl
theorem gHiType : (Tryd.prog.globals[0]?).map (·.type) = some 165 := by kernel_rfl
theorem gLoType : (Tryd.prog.globals[1]?).map (·.type) = some 165 := by kernel_rfl
theorem cellsTab : Tryd.prog.cellsOf 165 = 16 := by kernel_rfl
theorem cellsSum : Tryd.prog.cellsOf 158 = 1 := by kernel_rfl

theorem table_lo {W : World} (h : laidMetH Tryd.prog Rows.plogDropsRow.laid W) : Lib.TabIs Tryd.prog W "orchard/sum.lowTable" .u32 LO :=
  Lib.tabIs_of_head (rest := [("orchard/sum.highTable", Rows.laid_orchard_sum_highTable)]) gLo gLoType Tryd.underlying165 Tryd.underlying158 cellsSum cellsTab h
theorem table_hi {W : World} (h : laidMetH Tryd.prog Rows.plogDropsRow.laid W) : Lib.TabIs Tryd.prog W "orchard/sum.highTable" .u32 HI :=
  Lib.tabIs_of_head (rest := []) gHi gHiType Tryd.underlying165 Tryd.underlying158 cellsSum cellsTab (laidMet.tail (show laidMet Tryd.prog [("orchard/sum.lowTable", Rows.laid_orchard_sum_lowTable), ("orchard/sum.highTable", Rows.laid_orchard_sum_highTable)] W from h))
theorem tabs_of {W : World} (h : laidMetH Tryd.prog Rows.plogDropsRow.laid W) : Tabs W := by
  have c0 := fun (j : Nat) (hj : j < 16) => (table_hi h).cell gHi j hj
  have c1 := fun (j : Nat) (hj : j < 16) => (table_lo h).cell gLo j hj
  refine ⟨⟨World.block_lt_of_cell? W _ (c0 0 (by decide)), World.block_lt_of_cell? W _ (c1 0 (by decide))⟩, fun j hj => ?_, fun j hj => ?_⟩
  · rw [c0 j hj, hi_cast j]
  · rw [c1 j hj, lo_cast j]

theorem contract (H : Type) (enc : TypeId × Value → H) (W : World) (base : Nat) (args : Array Value) (ds gs : List (DataW H)) (before : List MemPlace)
    (hval : ∀ (j : Nat) t v, Tryd.f14.params[j]? = some t → args[j]? = some v → Value.okWide Tryd.prog W .any base t v)
    (hW : DataW.Whole enc Tryd.prog Tryd.f14.params.toList Rows.plogDropsSpec.vars false W args.toList ds gs before) (hL : laidMetH Tryd.prog Rows.plogDropsRow.laid W) :
    Calls Tryd.prog 14 args W fun e W' => ∃ v, e = .returned v ∧ Rows.plogDropsSpec.post enc Tryd.prog Tryd.f14 false true false false W args v W' := by
  have hT := tabs_of hL
  have hW' := hW
  obtain ⟨p, q, hA0, hV, rfl, hfz, hnd⟩ := hW
  have hA : DataW.TrodAll enc Tryd.prog W 0 (fun _ => true) true Tryd.f14.params.toList args.toList ds p := hA0
  rw [Tryd.params14] at hA hval
  obtain ⟨v0, vs0, d0, ds0, p0, q0, hargs, rfl, rfl, h0, r0⟩ := trodAll_cons hA
  obtain ⟨v1, vs1, d1, ds1, p1, q1, rfl, rfl, rfl, h1, r1⟩ := trodAll_cons r0
  obtain ⟨v2, vs2, d2, ds2, p2, q2, rfl, rfl, rfl, h2, r2⟩ := trodAll_cons r1
  obtain ⟨rfl, rfl, rfl⟩ := trodAll_nil r2
  obtain rfl : args = #[v0, v1, v2] := by cases args; simp_all
  obtain ⟨rfl, rfl⟩ := trodVars_none hV
  obtain ⟨a0, rfl, rfl, rfl, w0⟩ := open_int Tryd.underlying3 (hval 0 3 v0 rfl rfl) h0
  obtain ⟨a1, rfl, rfl, rfl, w1⟩ := open_int Tryd.underlying3 (hval 1 3 v1 rfl rfl) h1
  obtain ⟨a2, rfl, rfl, rfl, w2⟩ := open_int Tryd.underlying3 (hval 2 3 v2 rfl rfl) h2
  clear hA0
  refine (walk a0 a1 a2 W w0 w1 w2 hT).mono fun e W' ⟨he, bel⟩ => ?_
  subst he
  exact ⟨_, rfl, _, _, _, [], _, [], hW', trodAll_mk1 (shut_bool Tryd.underlying4 _), (trodAll_cons_mk (shut_int Tryd.underlying3 w0) (trodAll_cons_mk (shut_int Tryd.underlying3 w1) (trodAll_cons_mk (shut_int Tryd.underlying3 w2) trodAll_mk0))), rfl, bel.frame _, fun h => by cases h⟩

def setTab (l : List Int) : Obj → Obj
  | .cells _ t frozen => .cells (l.map (Value.int .u32)).toArray t frozen
  | o => o
noncomputable def laidWorld (os : Os) : World :=
  { World.holding Tryd.prog os ⟨#[], #[], []⟩ with heap := ((World.holding Tryd.prog os ⟨#[], #[], []⟩).heap.modify 1 (setTab LO)).modify 0 (setTab HI) }
theorem laid_met (os : Os) : laidMet Tryd.prog Rows.plogDropsRow.laid ((laidWorld os).forCall (fun _ _ => 0) ⟨#[], #[.int .i64 0, .int .i64 0, .int .i64 0], []⟩).memory :=
  laidMet_of_run' 8 (by kernel_rfl) (by kernel_rfl)
theorem reads (os : Os) {H : Type} (enc : TypeId × Value → H) : ∃ places, DataW.whole enc Tryd.prog ((laidWorld os).forCall (fun _ _ => 0) ⟨#[], #[.int .i64 0, .int .i64 0, .int .i64 0], []⟩).memory Tryd.f14.params.toList Rows.plogDropsSpec.vars false #[Value.int .i64 0, Value.int .i64 0, Value.int .i64 0].toList 8 = some ([.lit (.int .i64 0), .lit (.int .i64 0), .lit (.int .i64 0)], [], places) :=
  ⟨[], by kernel_rfl⟩

set_option maxRecDepth 100000 in
theorem lifted (os : Os) (started : os.Started) (H : Type) (enc : TypeId × Value → H) (F : Stop.Interp) :
    ReturnsInHanded {} Tryd.checked os 14 .any ((OpenSpec.ofChange Rows.plogDropsSpec).preRow enc Tryd.prog Tryd.f14 Rows.plogDropsRow.domain false Rows.plogDropsRow.laid) (((OpenSpec.ofChange Rows.plogDropsSpec).at F).post enc Tryd.prog Tryd.f14 false true false false) := by
  obtain ⟨places, hx⟩ := reads os enc
  refine returnsInHanded_of_row (C := Tryd.checked) (s := OpenSpec.ofChange Rows.plogDropsSpec) own started (by kernel_rfl) Tryd.func14
    (witness_row_at (enc := enc) (C := Tryd.checked) false (laidWorld os) #[.int .i64 0, .int .i64 0, .int .i64 0] rfl (by kernel_rfl) (by kernel_rfl) (by kernel_rfl)
      (OpenSpec.preRow_of_cond 8 hx (by kernel_rfl) (fun k hk => by cases hk) (by kernel_rfl) (laid_met os))) ?_
  intro W base args ds gs before hval hW _ _ _ hL _ _
  exact contract H enc W base args ds gs before hval hW hL

theorem said : Rows.PlogDropsSaid :=
  OpenClaim.holds_of_cond 14 Tryd.f14 rfl rfl rfl rfl rfl rfl rfl ⟨rfl, rfl, rfl, rfl, rfl⟩ rfl rfl rfl rfl rfl (by kernel_rfl) Tryd.func14 (by kernel_rfl)
    (of_decide_eq_true (by kernel_rfl)) (by unfold Func.isWrapper; first | (rw [if_pos (by decide +kernel)]; kernel_rfl) | (rw [if_neg (by decide +kernel)]; exact ⟨rfl, rfl⟩))
    (fun os started H enc _ F => by rw [OpenClaim.pre_eq_preRow]; exact lifted os started H enc F)

theorem plain (f : FuncId) (fn : Func) (hf : Tryd.pinned.checked.prog.funcNamed "orchard/orchardlaw06.PlogDrops" = some f) (hfn : Tryd.pinned.checked.prog.funcs[f]? = some fn) :
    false = Tryd.pinned.checked.prog.looks [] ∧ ∀ (j : Nat) t, fn.params[j]? = some t → Tryd.pinned.checked.prog.wantsStandIn t = false := by
  obtain rfl : f = 14 := Option.some.inj ((show Tryd.prog.funcNamed "orchard/orchardlaw06.PlogDrops" = some 14 by kernel_rfl).symm.trans hf) |>.symm
  obtain rfl : fn = Tryd.f14 := (Option.some.inj (Tryd.func14.symm.trans hfn)).symm
  refine ⟨by kernel_rfl, fun j t ht => ?_⟩
  rw [Tryd.params14] at ht
  have hm := Array.mem_of_getElem? ht
  simp at hm
  subst hm
  exact (show Tryd.prog.wantsStandIn 3 = false by kernel_rfl)

theorem card : Rows.PlogDropsCardSaid :=
  Claim7.holds_tied_plain_at .later [] _ _ _ _ said (fun _ h => by cases h) (by kernel_rfl) (fun _ h => by cases h) plogDrops_row_tie rfl ⟨rfl, rfl⟩ (by kernel_rfl) rfl plain (by kernel_rfl)
end Go.Proofs.YtpkhhecmddpnmaaDoor.plogDrops
