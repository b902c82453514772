/- PlogCuts: entries cut, and others put in their places: none of those that were cut is there again, whatever becomes of the power behind it; no condition on the input (the two tables start as the program text lays them). -/
import Derived.Test.YtpkhhecmddpnmaaDoorPlogAgn
import Derived.Test.YtpkhhecmddpnmaaDoorCards
import Derived.Test.YtpkhhecmddpnmaaDoorTie
import Derived.ProofKit
import Derived.OpenShut
import Derived.ShutString
import Derived.ChangeOld
import Derived.Deep.DeepHandedRow
import Derived.Lib.LaidTab
import Derived.Stop.LaidErr
namespace Go.Proofs.YtpkhhecmddpnmaaDoor.plogCuts
open Go.ChangeShapes Go.WideShapes Go.ChangeAt Go.RowKit
open Go.ChangeMaps (open_string shut_string)
set_option linter.unusedVariables false
set_option maxRecDepth 100000
theorem row_enN {w : World} {base n : Nat} {v : Value} {xs : List En} (h : w.ownsRow base 69 3 v n (enCells xs)) (hx : xs.length = n) (h0 : n ≠ 0) (hl : n ≤ 10000) :
    ∃ g cap, v = .slice (some ⟨g, 0, none⟩) n cap ∧ n ≤ cap ∧ base ≤ g ∧ g < w.heap.size ∧ ∀ j x, xs[j]? = some x → w.cell? ⟨g, j * 3, none⟩ = some (.int .i64 x.index) ∧ w.cell? ⟨g, j * 3 + 1, none⟩ = some (.int .i64 x.term) ∧ w.cell? ⟨g, j * 3 + 2, none⟩ = some (.string x.data) := by
  subst hx
  obtain ⟨g, cap, h1, h2, h3, h4, h5⟩ := row_en h h0 hl
  exact ⟨g, cap, h1, h2, h3, h4, fun j x hx => by have := h5 j x hx; rwa [Nat.zero_add] at this⟩
def entsD (t : Int) (s : ByteArray) (n : Nat) : List En := (List.range n).map fun k : Nat => ⟨(k : Int) + 1, t, s⟩
theorem entsD_length (t : Int) (s : ByteArray) (n : Nat) : (entsD t s n).length = n := by simp [entsD]
theorem entsD_succ (t : Int) (s : ByteArray) (n : Nat) : entsD t s (n + 1) = entsD t s n ++ [⟨(n : Int) + 1, t, s⟩] := by unfold entsD; rw [List.range_succ, List.map_append]; rfl
theorem entsD_at {t : Int} {s : ByteArray} {n k : Nat} (h : k < n) : (entsD t s n)[k]? = some ⟨(k : Int) + 1, t, s⟩ := by unfold entsD; rw [List.getElem?_map, List.getElem?_range h]; rfl
def sOld : ByteArray := ⟨#[111, 108, 100]⟩
def enN (l : Nat) : En := ⟨(l : Int) + 1, 2, ⟨#[110, 101, 119]⟩⟩
theorem enN_ok (l : Nat) : (enN l).ok = true := rfl
/-- The log and the slice 'now'. -/
def CutRel (m wb B b bt bd : Nat) (w1 : World) (j : Nat) (va : Value) (wr : World) : Prop :=
  ∃ (E : Nat → Prop) (D : Dv) (ys : List En), Lw m E wr b B bt bd 19 3 8 1 ys (10010 + j) D ∧ Unsp D ∧ WldB wr wb B b 1 (.slice none 0 0) (.slice none 0 0) ∧ EnA (But E b bt bd) wr va ys ∧ CapS va ys.length ∧ But E b bt bd wb ∧ Below m w1 wr ∧ ys.length ≤ 8
def ApC (m : Nat) (E : Nat → Prop) (w1 : World) (wb B b bt bd g cnt : Nat) (ys xs : List En) (x : En) (va : Value) (wx : World) : Prop :=
  ∃ D', Lw m E wx b B bt bd 19 3 8 1 ys cnt D' ∧ Unsp D' ∧ WldB wx wb B b 1 (.slice none 0 0) (.slice none 0 0) ∧ EnA (But E b bt bd) wx va xs ∧ EnB wx g x ∧ Below m w1 wx
theorem ApC.facts {m : Nat} {E : Nat → Prop} {w1 : World} {wb B b bt bd g cnt : Nat} {ys xs : List En} {x : En} {va : Value} {wx : World} (h : ApC m E w1 wb B b bt bd g cnt ys xs x va wx) : WldB wx wb B b 1 (.slice none 0 0) (.slice none 0 0) ∧ EnB wx g x := by
  obtain ⟨_, _, _, h1, _, h2, _⟩ := h
  exact ⟨h1, h2⟩
set_option maxHeartbeats 4000000 in
theorem walk (a0 a1 a2 : Int) (v3 : Value) (zs : List Int) (w : World) (w0 : (Lit.int .i64 a0).wf = true) (w1 : (Lit.int .i64 a1).wf = true) (w2 : (Lit.int .i64 a2).wf = true) (w3 : Fts w v3 zs) (hT : Tabs w) :
    Calls Tryd.prog 12 #[.int .i64 a0, .int .i64 a1, .int .i64 a2, v3] w fun e w' => e = .returned (.bool true) ∧ Below w.heap.size w w' := by
  have HFT := Lib.hid w3
  obtain ⟨fa, fcap, rfl, hzm, _⟩ := id w3
  have HT := Lib.hid (fun (x : World) (hb : Below w.heap.size w x) => hT.below hb)
  obtain ⟨q0, hq0⟩ : ∃ q : Int, q = a0 % 8 := ⟨_, rfl⟩
  have h0 : bits .and .i64 a0 7 = q0 := by rw [i64_and7, hq0]
  have b0 : 0 ≤ q0 ∧ q0 ≤ 7 := by omega
  obtain ⟨n, hn⟩ : ∃ n : Nat, (n : Int) = 1 + q0 := ⟨(1 + q0).toNat, by omega⟩
  have hn1 : 1 ≤ n ∧ n ≤ 8 := by omega
  have h3 : 1 + q0 = (n : Int) := hn.symm
  obtain ⟨q1, hq1⟩ : ∃ q : Int, q = a1 % 256 := ⟨_, rfl⟩
  have h1 : bits .and .i64 a1 255 = q1 := by rw [i64_and255, hq1]
  have b1 : 0 ≤ q1 ∧ q1 ≤ 255 := by omega
  obtain ⟨c, hc⟩ : ∃ c : Nat, (c : Int) = q1 % (n : Int) := ⟨(q1 % (n : Int)).toNat, by have := Int.emod_nonneg q1 (show (n : Int) ≠ 0 by omega); omega⟩
  have hcn : c < n := by have := Int.emod_lt_of_pos q1 (show (0 : Int) < (n : Int) by omega); omega
  have h4 : q1 % (n : Int) = (c : Int) := hc.symm
  have h4' : q1.tmod (n : Int) = (c : Int) := by rw [Int.tmod_eq_emod_of_nonneg b1.1]; exact h4
  obtain ⟨r, hr⟩ : ∃ r : Nat, (r : Int) = a2 % 4 := ⟨(a2 % 4).toNat, by omega⟩
  have h5 : bits .and .i64 a2 3 = (r : Int) := by rw [i64_and3, hr]
  have hr3 : r ≤ 3 := by omega
  unfold maxLen at hzm
  clear hT hq0 hn hq1 hc hr w3
  go_enter Tryd.func12, Tryd.ntmps12
  go_wp2_with fail
  refine (phead_any w HT.out).mono ?_
  rintro e w1 ⟨rfl, hb1⟩
  by_cases hz20 : 20 < zs.length
  · have hz : decide ((20 : Int) < (zs.length : Int)) = true := by simp; omega
    have hz' : decide (20 < zs.length) = true := by simpa using hz20
    clear hz20
    go_wp2_with fail
    go_ret
    exact ⟨rfl, hb1⟩
  have hz : decide ((20 : Int) < (zs.length : Int)) = false := by simp; omega
  have hz' : decide (20 < zs.length) = false := by simpa using hz20
  go_wp2_with fail
  refine (pnew_any w1 (fun x hx => HT.out x (hb1.trans (hx.mono hb1.size)))).mono ?_
  rintro e w2 hN
  obtain ⟨wb, E, B, b, bt, bd, D2, rfl, W2, hb2⟩ := wl_new hN
  have HTb := Lib.hid (fun (x : World) (hx : Below w1.heap.size w1 x) => HT.out x (hb1.trans (hx.mono hb1.size)))
  obtain ⟨i0, hi0, hz0, hz1, hz2⟩ := info_parts info_en
  have R2 : (w2.alloc (.cells #[] 69)).ownsRow w2.heap.size 69 3 (.slice (some ⟨w2.heap.size, 0, none⟩) 0 0) 0 [] := World.ownsRow_made w2 #[] 0 (Nat.le_refl _) (Nat.zero_le _) rfl
  have B2 := (Below.refl w2.heap.size w2).alloc (Nat.le_refl _) (.cells #[] 69)
  clear h0 h3 hz hz' hN hz20
  go_wp2_with fail
  go_loopw [10, 11] (fun v i wr => ∃ k : Nat, k ≤ n ∧ i = .int .i64 ((k : Int) + 1) ∧ wr.ownsRow w2.heap.size 69 3 v k (enCells (entsD 1 sOld k)) ∧ Below w2.heap.size w2 wr) (fun _ i _ => n + 1 - (intOf i).toNat)
  case atStart => exact ⟨0, by omega, rfl, R2, B2⟩
  case round =>
    obtain ⟨k, hk, rfl, Rk, Bk⟩ := hrel
    clear R2 B2
    by_cases hlt : k < n
    · have hlt' : (k : Int) + 1 ≤ (n : Int) := by omega
      have hk0 : (0 : Int) ≤ (k : Int) := by omega
      have hown := Rk.alloc (.cells #[.int .i64 ((k : Int) + 1), .int .i64 1, .string ⟨#[111, 108, 100]⟩] 69)
      have hnw : ∀ (j : Nat) (u : Value), (enCells [(⟨(k : Int) + 1, 1, sOld⟩ : En)])[j]? = some u → (wr.alloc (.cells #[.int .i64 ((k : Int) + 1), .int .i64 1, .string ⟨#[111, 108, 100]⟩] 69)).cell? (Addr.add ⟨wr.heap.size, 0, none⟩ j) = some u := World.news_of_block (cs := #[.int .i64 ((k : Int) + 1), .int .i64 1, .string ⟨#[111, 108, 100]⟩]) (t := 69) (fr := (0, 0)) (heap_alloc_new wr _)
      have hbA := Bk.alloc Bk.size (.cells #[.int .i64 ((k : Int) + 1), .int .i64 1, .string ⟨#[111, 108, 100]⟩] 69)
      have HNW := Lib.hid hnw
      clear hnw
      go_wp2_with (at_builtin; refine wpList_append_lies _ rfl _ _ _ rfl w2.heap.size 69 i0 _ 3 32 und_ens hi0 hz0 hz1 hz2 rfl (by decide) u10 k (enCells (entsD 1 sOld k)) rfl hown ⟨wr.heap.size, 0, none⟩ 1 1 (enCells [(⟨(k : Int) + 1, 1, sOld⟩ : En)]) rfl rfl HNW.out (enCells_one _) (by decide) (by unfold maxLen; omega) (by omega) hbA.size (wr.heap.size + 1) (by simp) ?_; intro g4 cap4 w4 hown4 hgrow hat hlt4; go_frame)
      have hb4 : Below w2.heap.size w2 w4 := hbA.grown hgrow hbA.size (fun j hj => (World.ownsRow.lt Rk j hj).1)
      rw [← enCells_append, ← entsD_succ] at hown4
      go_roundw
      case rel => exact ⟨k + 1, by omega, by go_num, hown4, hb4⟩
      case measure => simp [intOf]; omega
    · obtain rfl : k = n := by omega
      have HLE := Lib.hid (entsD_length 1 sOld k)
      obtain ⟨g, cap, rfl, hcap, hgb, hgl, hcell⟩ := row_enN Rk HLE.out (by omega) (by omega)
      have hms2 := W2.size
      have hv : EnS (Made E b bt bd w2 wr) wr (.slice (some ⟨g, 0, none⟩) (entsD 1 sOld k).length cap) (entsD 1 sOld k) := by
        exact ⟨_, cap, rfl, by rw [HLE.out]; omega, .inr ⟨g, rfl, .inr ⟨hgb, hgl⟩, hgl, hcell⟩⟩
      have HAP := Lib.hid (lw_appW W2.lw (by decide) wr Bk _ (entsD 1 sOld k) hv (fun j y hj => by
        have hjk : j < k := by have := (List.getElem?_eq_some_iff.1 hj).1; rwa [HLE.out] at this
        rw [entsD_at hjk] at hj
        obtain rfl := Option.some.inj hj
        exact ⟨by show (j : Int) + 1 = 1 + 0 + (j : Int); omega, rfl⟩) (by rw [HLE.out]; show (0 : Int) + (k : Int) ≤ 8; omega) hms2 (fun y hy => HTb.out y (hb2.trans hy)) (by decide))
      rw [HLE.out] at HAP
      have v1 := (W2.wld.below Bk).cells.1.2.1
      have hd0 : decide ((k : Int) + 1 ≤ (k : Int)) = false := by simp; omega
      go_wp2_with fail
      clear hd0
      refine HAP.out.mono ?_
      rintro e w3 ⟨rfl, ⟨D3, L3, hu3⟩, hb3, hk3⟩
      have V3 := (W2.wld.below Bk).keep hk3 (Or.inl W2.but)
      have hB2 : Below w1.heap.size w1 wr := hb2.trans (Bk.mono hms2)
      have B3 := hB2.trans hb3
      have hu3' := Lib.hid (hu3 W2.pure)
      have e3 := hk3 g (Or.inr ⟨hgb, hgl⟩)
      have hcell3 : ∀ j x, (entsD 1 sOld k)[j]? = some x → w3.cell? ⟨g, j * 3, none⟩ = some (.int .i64 x.index) ∧ w3.cell? ⟨g, j * 3 + 1, none⟩ = some (.int .i64 x.term) ∧ w3.cell? ⟨g, j * 3 + 2, none⟩ = some (.string x.data) := fun j x hx => by
        rw [cell_kept e3, cell_kept e3, cell_kept e3]; exact hcell j x hx
      have hwb := W2.but
      have hmw := W2.mwb
      have hgE : But (fun j => E j ∨ (w2.heap.size ≤ j ∧ j < wr.heap.size)) b bt bd g := made_but W2.lw g (Or.inr ⟨hgb, hgl⟩)
      have hbE : But (fun j => E j ∨ (w2.heap.size ≤ j ∧ j < wr.heap.size)) b bt bd wb := ⟨.inl hwb.1, hwb.2⟩
      have hgl3 := Nat.lt_of_lt_of_le hgl hb3.size
      clear HAP v1 hk3 hu3 hb3 hv W2 Bk hcell e3 Rk
      have v1 := V3.cells.1.2.1
      have HLE' : Hid ([] ++ entsD 1 sOld k = entsD 1 sOld k) := rfl
      have L3' : Lw w1.heap.size (fun j => E j ∨ (w2.heap.size ≤ j ∧ j < wr.heap.size)) w3 b B bt bd 19 3 8 1 (entsD 1 sOld k) (10000 + k) D3 := L3
      have hc0 : (0 : Int) ≤ (c : Int) := by omega
      have hc8 : (c : Int) ≤ 8 := by omega
      go_wp2_with fail
      refine (lw_cut L3' (by decide) (f := 1 + (c : Int)) (by omega) (by rw [HLE.out]; omega) B3.size (fun y hy => HTb.out y (B3.trans hy))).mono ?_
      rintro e w4 ⟨rfl, ⟨D4, L4, hu4⟩, hb4, hk4⟩
      rw [show (1 + (c : Int) - 1).toNat = c by omega] at L4
      have V4 := V3.keep hk4 hbE
      have B4 := B3.trans hb4
      have hu4' := Lib.hid (hu4 hu3'.out)
      have e4 := hk4 g hgE
      have hlt4 : ((entsD 1 sOld k).take c).length = c := by rw [List.length_take, HLE.out]; omega
      have A4 : EnA (But (fun j => E j ∨ (w2.heap.size ≤ j ∧ j < wr.heap.size)) b bt bd) w4 (.slice (some ⟨g, 0, none⟩) c cap) ((entsD 1 sOld k).take c) := by
        refine ⟨_, cap, by rw [hlt4], by rw [hlt4]; omega, .inr ⟨g, 0, rfl, hgE, Nat.lt_of_lt_of_le hgl3 hb4.size, fun j x hx => ?_⟩⟩
        rw [cell_kept e4, cell_kept e4, cell_kept e4, Nat.zero_add]
        have hjc : j < c := by have := (List.getElem?_eq_some_iff.1 hx).1; rwa [hlt4] at this
        rw [List.getElem?_take_of_lt hjc] at hx
        exact hcell3 j x hx
      have R0 : CutRel w1.heap.size wb B b bt bd w1 0 (.slice (some ⟨g, 0, none⟩) c cap) w4 := ⟨_, D4, _, L4.mono (by omega), hu4'.out, V4, A4, ⟨_, cap, by rw [hlt4], by rw [hlt4]; omega, (fun h => by cases h), (fun b h => by obtain rfl := Option.some.inj h; rfl)⟩, hbE, B4, by rw [hlt4]; omega⟩
      have hcc : (c : Int) ≤ (cap : Int) := by omega
      clear L3 L3' L4 V3 V4 B3 B4 A4 hb4 hk4 hu4 hcell3 e4 v1 HLE' h1 h4 h4' hlt4
      have hcs : 1 + (c : Int) - 1 = (c : Int) := by omega
      have hcs' : 1 + c - 1 = c := by omega
      go_wp2_with fail
      clear hcs hcs'
      go_loopw [12, 13] (fun v i wr => ∃ j : Nat, j ≤ r ∧ i = .int .i64 (j : Int) ∧ CutRel w1.heap.size wb B b bt bd w1 j v wr) (fun _ i _ => r - (intOf i).toNat)
      case atStart => exact ⟨0, by omega, rfl, R0⟩
      case round =>
        obtain ⟨j, hj, rfl, HR⟩ := hrel
        clear R0
        obtain ⟨E5, D5, ys, L5, U5, V5, A5, C5, hb5, B5, hy8⟩ := HR
        have HU5 := Lib.hid U5
        obtain ⟨a, cap5, rfl, hcap5, hnone, hspot⟩ := id C5
        have hj0 : (0 : Int) ≤ (j : Int) := by omega
        have hy0 : (0 : Int) ≤ (ys.length : Int) := by omega
        have hyl : (ys.length : Int) ≤ 8 := by omega
        by_cases hgo : j < r ∧ ys.length < 8
        · obtain ⟨hjr, hys⟩ := hgo
          have hjr' : (j : Int) < (r : Int) := by omega
          have hys' : (ys.length : Int) < 8 := by omega
          have e1 : IntKind.i64.wrap ((ys.length : Int) + 1) = (ys.length : Int) + 1 := IntWalk.i64_in _ (by omega)
          have NA : EnB (wr.alloc (.cells #[.int .i64 ((ys.length : Int) + 1), .int .i64 2, .string ⟨#[110, 101, 119]⟩] 69)) wr.heap.size (enN ys.length) := EnB.new wr (enN ys.length)
          have BA := (Below.refl wr.heap.size wr).alloc (Nat.le_refl _) (.cells #[.int .i64 ((ys.length : Int) + 1), .int .i64 2, .string ⟨#[110, 101, 119]⟩] 69)
          have hms5 : w1.heap.size ≤ wr.heap.size := B5.size
          go_upto_region 24 with fail
          generalize wr.alloc (.cells #[.int .i64 ((ys.length : Int) + 1), .int .i64 2, .string ⟨#[110, 101, 119]⟩] 69) = w5 at NA BA ⊢
          have HAP : Hid (∀ W, Below w5.heap.size w5 W → EnB W w5.heap.size (enN ys.length) → w5.heap.size < W.heap.size → Calls Tryd.prog 42 #[.pointer (some ⟨b, 0, none⟩), .slice (some ⟨w5.heap.size, 0, none⟩) 1 1] W fun e w' => e = .returned (.int .i64 0) ∧ ApC w1.heap.size E5 w1 wb B b bt bd wr.heap.size (10010 + j + 1) (ys ++ [enN ys.length]) ys (enN ys.length) (.slice a ys.length cap5) w') := by
            intro W hb hN hs
            have hbW := BA.trans (hb.mono BA.size)
            have hix : ∀ (i : Nat) (y : En), [enN ys.length][i]? = some y → i = 0 ∧ enN ys.length = y := fun i y hy => by
              rcases i with _ | i
              · exact ⟨rfl, by simpa using hy⟩
              · simp at hy
            have hv : EnS (Made E5 b bt bd wr W) W (.slice (some ⟨w5.heap.size, 0, none⟩) 1 1) [enN ys.length] := by
              refine ⟨_, 1, rfl, by simp, .inr ⟨w5.heap.size, rfl, .inr ⟨BA.size, hs⟩, hs, fun i y hy => ?_⟩⟩
              obtain ⟨rfl, rfl⟩ := hix i y hy
              exact hN.cells.1
            refine (lw_appW L5 (by decide) W hbW _ [enN ys.length] hv (fun i y hy => by obtain ⟨rfl, rfl⟩ := hix i y hy; exact ⟨by show (ys.length : Int) + 1 = 1 + (ys.length : Int) + 0; omega, rfl⟩) (by simp; omega) hms5 (fun y hy => HTb.out y (B5.trans hy)) (by omega)).mono ?_
            rintro e w' ⟨rfl, ⟨D', hL, hu⟩, hbl, hk'⟩
            obtain ⟨⟨o1, o2, o3⟩, _⟩ := L5.own
            refine ⟨rfl, D', hL.less (fun j hj => .inl hj) o1 o2 o3, hu HU5.out, (V5.below hbW).keep hk' (Or.inl hb5), ?_, ?_, B5.trans ((hbW.mono hms5).trans hbl)⟩
            · exact (A5.keep (Kept.of_below (fun j hj => L5.dev.lt j hj.1) hbW) (fun _ h => h) hbW.size).keep hk' (fun j hj => Or.inl hj) hbl.size
            · exact (hk' wr.heap.size (Or.inr ⟨Nat.le_refl _, Nat.lt_of_lt_of_le NA.lt hb.size⟩)).trans ((hb.block _ NA.lt).trans NA)
          have W2 := V5.below BA
          obtain ⟨⟨n0, n1, n2⟩, nz⟩ := NA.cells
          have v1 := W2.cells.1.2.1
          have BB : Below w5.heap.size w5 (w5.alloc (.cells #[.int .i64 (enN ys.length).index, .int .i64 (enN ys.length).term, .string (enN ys.length).data] 69)).drew := ((Below.refl _ w5).alloc (Nat.le_refl _) _).drew
          have NB : EnB (w5.alloc (.cells #[.int .i64 (enN ys.length).index, .int .i64 (enN ys.length).term, .string (enN ys.length).data] 69)).drew w5.heap.size (enN ys.length) := EnB.new w5 (enN ys.length)
          have SB : w5.heap.size < (w5.alloc (.cells #[.int .i64 (enN ys.length).index, .int .i64 (enN ys.length).term, .string (enN ys.length).data] 69)).drew.heap.size := by show _ < (w5.alloc _).heap.size; simp
          have y1 : ¬ wb = w5.heap.size := Nat.ne_of_lt W2.lt
          have y2 : ¬ w5.heap.size = wb := Nat.ne_of_gt W2.lt
          have y3 : ¬ wr.heap.size = w5.heap.size := Nat.ne_of_lt NA.lt
          have y4 : ¬ w5.heap.size = wr.heap.size := Nat.ne_of_gt NA.lt
          clear e1 nz
          go_cut [82] (fun q wx => q = .bool false ∧ ApC w1.heap.size E5 w1 wb B b bt bd wr.heap.size (10010 + j + 1) (ys ++ [enN ys.length]) ys (enN ys.length) (.slice a ys.length cap5) wx)
          case first =>
            go_region_held3 (fun w' => w'.cell? ⟨wb, 1, none⟩ = some (.pointer (some ⟨b, 0, none⟩)) ∧ w'.cell? ⟨wr.heap.size, 0, none⟩ = some (.int .i64 (enN ys.length).index) ∧ w'.cell? ⟨wr.heap.size, 1, none⟩ = some (.int .i64 (enN ys.length).term) ∧ w'.cell? ⟨wr.heap.size, 2, none⟩ = some (.string (enN ys.length).data)) (first | (with_reducible assumption) | (refine ⟨?_, ?_, ?_, ?_⟩ <;> with_reducible assumption) | go_keep)
              ((go_at_call 42; refine (HAP.out _ ?hBa ?hBb ?hBc).mono ?_; (case hBa => with_reducible exact BB); (case hBb => with_reducible exact NB); (case hBc => with_reducible exact SB); rintro e w3 ⟨rfl, HA⟩; obtain ⟨V3, N3⟩ := HA.facts; have z1 := V3.cells.1.2.1; obtain ⟨⟨z2, z3, z4⟩, _⟩ := N3.cells))
            go_wp2_with fail
            go_meet
            exact ⟨rfl, HA⟩
          case rest =>
            obtain ⟨rfl, D6, L6, U6, V6, A6, N6, B6⟩ := hcut
            clear HAP W2 n0 n1 n2 v1 BB NB SB y1 y2 y3 y4 NA BA V5 A5 L5 B5 hms5
            have hms6 : w1.heap.size ≤ wc.heap.size := B6.size
            have bA := ((Below.refl wc.heap.size wc).alloc (Nat.le_refl _) (.cells #[.int .i64 (enN ys.length).index, .int .i64 (enN ys.length).term, .string (enN ys.length).data] 69)).drew
            have hnA : EnB (wc.alloc (.cells #[.int .i64 (enN ys.length).index, .int .i64 (enN ys.length).term, .string (enN ys.length).data] 69)).drew wc.heap.size (enN ys.length) := EnB.new wc (enN ys.length)
            have HRW := Lib.hid (EnA.reads (c := cap5) (A6.keep (Kept.of_below (fun j hj => L6.dev.lt j hj.1) bA) (fun _ h => h) bA.size))
            have hsA : wc.heap.size ≤ (wc.alloc (.cells #[.int .i64 (enN ys.length).index, .int .i64 (enN ys.length).term, .string (enN ys.length).data] 69)).drew.heap.size := bA.size
            have HPU : Hid (∀ (v4 : Value) (w4 : World), w4.ownsRow (wc.alloc (.cells #[.int .i64 (enN ys.length).index, .int .i64 (enN ys.length).term, .string (enN ys.length).data] 69)).drew.heap.size 69 3 v4 (ys.length + 1) (enCells ys ++ enCells [enN ys.length]) → (wc.alloc (.cells #[.int .i64 (enN ys.length).index, .int .i64 (enN ys.length).term, .string (enN ys.length).data] 69)).drew.grownBy w4 none →
                ∃ g4 cap4, v4 = .slice (some ⟨g4, 0, none⟩) (ys.length + 1) cap4 ∧ CutRel w1.heap.size wb B b bt bd w1 (j + 1) (.slice (some ⟨g4, 0, none⟩) (ys.length + 1) cap4) w4 ∧ EnB w4 wr.heap.size (enN ys.length)) := by
              intro v4 w4 hown hgrow
              have b64 : Below wc.heap.size wc w4 := bA.grown hgrow hsA (fun j hj => by cases hj)
              have hl1 : (ys ++ [enN ys.length]).length = ys.length + 1 := by simp
              rw [← enCells_append] at hown
              obtain ⟨g4, cap4, rfl, h1, h2, h3, h4⟩ := row_enN hown hl1 (by omega) (by omega)
              obtain ⟨⟨o1, o2, o3⟩, l1, l2, l3⟩ := L6.own
              refine ⟨g4, cap4, rfl, ⟨fun j => E5 j ∨ (wc.heap.size ≤ j ∧ j < w4.heap.size), D6, ys ++ [enN ys.length], L6.growAll b64, U6, V6.below b64, ?_, ?_, ⟨.inl hb5.1, hb5.2⟩, B6.trans (b64.mono hms6), by rw [hl1]; omega⟩, N6.below b64⟩
              · refine ⟨_, cap4, by rw [hl1], by rw [hl1]; omega, .inr ⟨g4, 0, rfl, ⟨.inr ⟨by omega, h3⟩, by omega, by omega, by omega⟩, h3, fun j x hx => ?_⟩⟩
                rw [Nat.zero_add]
                exact h4 j x hx
              · exact ⟨_, cap4, by rw [hl1], by rw [hl1]; exact h1, (fun h => by cases h), (fun b h => by obtain rfl := Option.some.inj h; rfl)⟩
            have hNW : ∀ (j : Nat) (u : Value), (enCells [enN ys.length])[j]? = some u → (wc.alloc (.cells #[.int .i64 (enN ys.length).index, .int .i64 (enN ys.length).term, .string (enN ys.length).data] 69)).drew.cell? (Addr.add ⟨wc.heap.size, 0, none⟩ j) = some u := World.news_of_block (cs := #[.int .i64 (enN ys.length).index, .int .i64 (enN ys.length).term, .string (enN ys.length).data]) (t := 69) (fr := (0, 0)) hnA
            have HNW := Lib.hid hNW
            have HLEN := Lib.hid (enCells_length ys)
            obtain ⟨⟨n0, n1, n2⟩, nz⟩ := N6.cells
            have y3 : ¬ wr.heap.size = wc.heap.size := Nat.ne_of_lt N6.lt
            have y4 : ¬ wc.heap.size = wr.heap.size := Nat.ne_of_gt N6.lt
            have hcap' : (ys.length : Int) ≤ (cap5 : Int) := by omega
            clear hNW hnA bA hsA nz L6 U6 V6 A6 N6 B6 hms6
            rcases a with _ | ⟨g5, off, sp⟩
            · obtain rfl : cap5 = 0 := hnone rfl
              obtain rfl : ys = [] := List.eq_nil_of_length_eq_zero (by omega)
              go_upto_region 26 with fail
              go_region_held3 (fun w' => w'.cell? ⟨wr.heap.size, 0, none⟩ = some (.int .i64 (enN ([] : List En).length).index) ∧ w'.cell? ⟨wr.heap.size, 1, none⟩ = some (.int .i64 (enN ([] : List En).length).term) ∧ w'.cell? ⟨wr.heap.size, 2, none⟩ = some (.string (enN ([] : List En).length).data)) (first | (with_reducible assumption) | (refine ⟨?_, ?_, ?_⟩ <;> with_reducible assumption) | go_keep)
                ((refine step_append_grows (by rfl) _ _ _ (by rfl) 69 i0 _ 3 32 und_ens hi0 hz0 hz1 hz2 rfl (by decide) none 0 0 [] (by rfl) (fun _ => ⟨rfl, rfl⟩) rfl (fun b h => by cases h) ⟨wc.heap.size, 0, none⟩ 1 1 (enCells [enN ([] : List En).length]) (by rfl) (by rfl) HNW.out (enCells_one _) (by omega) (by unfold maxLen; omega) (by omega) ?_; intro v4 w4 hown hgrow; obtain ⟨g4, cap4, rfl, HC4, N4⟩ := HPU.out v4 w4 hown hgrow; obtain ⟨⟨z2, z3, z4⟩, _⟩ := N4.cells))
              go_wp2_with fail
              go_roundw
              case rel => exact ⟨j + 1, by omega, by go_num, HC4⟩
              case measure => simp [intOf]; omega
            · obtain rfl : sp = none := hspot _ rfl
              go_upto_region 26 with fail
              go_region_held3 (fun w' => w'.cell? ⟨wr.heap.size, 0, none⟩ = some (.int .i64 (enN ys.length).index) ∧ w'.cell? ⟨wr.heap.size, 1, none⟩ = some (.int .i64 (enN ys.length).term) ∧ w'.cell? ⟨wr.heap.size, 2, none⟩ = some (.string (enN ys.length).data)) (first | (with_reducible assumption) | (refine ⟨?_, ?_, ?_⟩ <;> with_reducible assumption) | go_keep)
                ((refine step_append_grows (by rfl) _ _ _ (by rfl) 69 i0 _ 3 32 und_ens hi0 hz0 hz1 hz2 rfl (by decide) (some ⟨g5, off, none⟩) ys.length ys.length (enCells ys) (by rfl) (fun h => by cases h) HLEN.out HRW.out ⟨wc.heap.size, 0, none⟩ 1 1 (enCells [enN ys.length]) (by rfl) (by rfl) HNW.out (enCells_one _) (by omega) (by unfold maxLen; omega) (by omega) ?_; intro v4 w4 hown hgrow; obtain ⟨g4, cap4, rfl, HC4, N4⟩ := HPU.out v4 w4 hown hgrow; obtain ⟨⟨z2, z3, z4⟩, _⟩ := N4.cells))
              go_wp2_with fail
              go_roundw
              case rel => exact ⟨j + 1, by omega, by go_num, HC4⟩
              case measure => simp [intOf]; omega
        · have hmb : w1.heap.size ≤ wb := hmw
          have W6 : WlIn w1.heap.size wb (wr.setCell ⟨wb, 3, none⟩ (.slice a ys.length cap5)) E5 B b bt bd D5 1 ys 20000 (.slice a ys.length cap5) (.slice none 0 0) :=
            ⟨(L5.mono (by omega)).setOut hb5 hmb 3 _, V5.setAll _, A5.setW (n := 0) V5 ⟨none, 0, rfl, Nat.le_refl _, (fun _ => rfl), (fun b h => by cases h)⟩ 3 _, C5, hb5, hmb, by simpa using B5.size, HU5.out⟩
          have B6 := B5.setCell (p := ⟨wb, 3, none⟩) hmb (.slice a ys.length cap5)
          have HSH := Lib.hid (wl_shows W6 (fun y hy => HTb.out y (B6.trans hy)) (by decide))
          have HAG : Hid (∀ (w7 : World), WlIn w1.heap.size wb w7 E5 B b bt bd D5 1 ys (20000 + ys.length + 2) (.slice a ys.length cap5) (.slice none 0 0) → Below w1.heap.size w1 w7 → Calls Tryd.prog 41 #[.pointer (some ⟨wb, 0, none⟩), .slice fa zs.length fcap] w7 fun e w' => e = .returned (.bool true) ∧ Wl w1.heap.size wb w' 1 ys 20000 ∧ Below w1.heap.size w7 w') :=
            fun w7 W7 B7 => again_any W7 (fun y hy => HTb.out y (B7.trans hy)) _ zs ((HFT.out.below (hb1.trans (B7.mono hb1.size))))
          obtain ⟨⟨_, _, _, p3, _⟩, _, _, _, f3, _⟩ := V5.cells
          clear L5 V5 A5 B5 W6
          by_cases hjr : j < r
          · have hjr' : (j : Int) < (r : Int) := by omega
            have h8 : decide ((ys.length : Int) < 8) = false := by simp; omega
            have h8' : decide (ys.length < 8) = false := by simp; omega
            go_wp2_with fail
            refine HSH.out.mono ?_
            rintro e w7 ⟨rfl, W7, hb7⟩
            go_wp2_with fail
            refine (HAG.out w7 W7 (B6.trans hb7)).mono ?_
            rintro e w8 ⟨rfl, _, hb8⟩
            go_wp2_with fail
            go_ret
            exact ⟨rfl, hb1.trans (((B6.trans hb7).trans hb8).mono hb1.size)⟩
          · have hjr' : ¬ (j : Int) < (r : Int) := by omega
            go_wp2_with fail
            refine HSH.out.mono ?_
            rintro e w7 ⟨rfl, W7, hb7⟩
            go_wp2_with fail
            refine (HAG.out w7 W7 (B6.trans hb7)).mono ?_
            rintro e w8 ⟨rfl, _, hb8⟩
            go_wp2_with fail
            go_ret
            exact ⟨rfl, hb1.trans (((B6.trans hb7).trans hb8).mono hb1.size)⟩

theorem own : ownKnob Tryd.prog.godebug = none := by kernel_rfl
theorem laidOut : laidOutB Tryd.prog = true := by kernel_rfl
theorem gHi : Tryd.prog.globalNamed "orchard/sum.highTable" = some 0 := by kernel_rfl
theorem gLo : Tryd.prog.globalNamed "orchard/sum.lowTable" = some 1 := by kernel_rfl
theorem gHiType : (Tryd.prog.globals[0]?).map (·.type) = some 165 := by kernel_rfl
theorem gLoType : (Tryd.prog.globals[1]?).map (·.type) = some 165 := by kernel_rfl
theorem cellsTab : Tryd.prog.cellsOf 165 = 16 := by kernel_rfl
theorem cellsSum : Tryd.prog.cellsOf 158 = 1 := by kernel_rfl

theorem table_lo {W : World} (h : laidMetH Tryd.prog Rows.plogCutsRow.laid W) : Lib.TabIs Tryd.prog W "orchard/sum.lowTable" .u32 LO :=
  Lib.tabIs_of_head (rest := [("orchard/sum.highTable", Rows.laid_orchard_sum_highTable)]) gLo gLoType Tryd.underlying165 Tryd.underlying158 cellsSum cellsTab h
theorem table_hi {W : World} (h : laidMetH Tryd.prog Rows.plogCutsRow.laid W) : Lib.TabIs Tryd.prog W "orchard/sum.highTable" .u32 HI :=
  Lib.tabIs_of_head (rest := []) gHi gHiType Tryd.underlying165 Tryd.underlying158 cellsSum cellsTab (laidMet.tail (show laidMet Tryd.prog [("orchard/sum.lowTable", Rows.laid_orchard_sum_lowTable), ("orchard/sum.highTable", Rows.laid_orchard_sum_highTable)] W from h))
theorem tabs_of {W : World} (h : laidMetH Tryd.prog Rows.plogCutsRow.laid W) : Tabs W := by
  have c0 := fun (j : Nat) (hj : j < 16) => (table_hi h).cell gHi j hj
  have c1 := fun (j : Nat) (hj : j < 16) => (table_lo h).cell gLo j hj
  refine ⟨⟨World.block_lt_of_cell? W _ (c0 0 (by decide)), World.block_lt_of_cell? W _ (c1 0 (by decide))⟩, fun j hj => ?_, fun j hj => ?_⟩
  · rw [c0 j hj, hi_cast j]
  · rw [c1 j hj, lo_cast j]

theorem contract (H : Type) (enc : TypeId × Value → H) (W : World) (base : Nat) (args : Array Value) (ds gs : List (DataW H)) (before : List MemPlace)
    (hval : ∀ (j : Nat) t v, Tryd.f12.params[j]? = some t → args[j]? = some v → Value.okWide Tryd.prog W .any base t v)
    (hW : DataW.Whole enc Tryd.prog Tryd.f12.params.toList Rows.plogCutsSpec.vars false W args.toList ds gs before) (hL : laidMetH Tryd.prog Rows.plogCutsRow.laid W) :
    Calls Tryd.prog 12 args W fun e W' => ∃ v, e = .returned v ∧ Rows.plogCutsSpec.post enc Tryd.prog Tryd.f12 false true false false W args v W' := by
  have hT := tabs_of hL
  have hW' := hW
  obtain ⟨p, q, hA0, hV, rfl, hfz, hnd⟩ := hW
  have hA : DataW.TrodAll enc Tryd.prog W 0 (fun _ => true) true Tryd.f12.params.toList args.toList ds p := hA0
  rw [Tryd.params12] at hA hval
  obtain ⟨v0, vs0, d0, ds0, p0, q0, hargs, rfl, rfl, h0, r0⟩ := trodAll_cons hA
  obtain ⟨v1, vs1, d1, ds1, p1, q1, rfl, rfl, rfl, h1, r1⟩ := trodAll_cons r0
  obtain ⟨v2, vs2, d2, ds2, p2, q2, rfl, rfl, rfl, h2, r2⟩ := trodAll_cons r1
  obtain ⟨v3, vs3, d3, ds3, p3, q3, rfl, rfl, rfl, h3, r3⟩ := trodAll_cons r2
  obtain ⟨rfl, rfl, rfl⟩ := trodAll_nil r3
  obtain rfl : args = #[v0, v1, v2, v3] := by cases args; simp_all
  obtain ⟨rfl, rfl⟩ := trodVars_none hV
  obtain ⟨a0, rfl, rfl, rfl, w0⟩ := open_int Tryd.underlying3 (hval 0 3 v0 rfl rfl) h0
  obtain ⟨a1, rfl, rfl, rfl, w1⟩ := open_int Tryd.underlying3 (hval 1 3 v1 rfl rfl) h1
  obtain ⟨a2, rfl, rfl, rfl, w2⟩ := open_int Tryd.underlying3 (hval 2 3 v2 rfl rfl) h2
  have k3 := h3
  have lt3 : ∀ x ∈ p3, x.block < W.heap.size := by obtain ⟨m, hm⟩ := k3; exact DataW.trod_lt m _ _ _ hm
  obtain ⟨z3, w3⟩ := fts_of (hval 3 46 v3 rfl rfl) h3
  clear hA0
  refine (walk a0 a1 a2 v3 z3 W w0 w1 w2 w3 hT).mono fun e W' ⟨he, bel⟩ => ?_
  subst he
  exact ⟨_, rfl, _, _, _, [], _, [], hW', trodAll_mk1 (shut_bool Tryd.underlying4 _), (trodAll_cons_mk (shut_int Tryd.underlying3 w0) (trodAll_cons_mk (shut_int Tryd.underlying3 w1) (trodAll_cons_mk (shut_int Tryd.underlying3 w2) (trodAll_cons_mk (Below.trod laidOut (by kernel_rfl) (of_decide_eq_true (by kernel_rfl)) k3 bel lt3) trodAll_mk0)))), rfl, bel.frame _, fun h => by cases h⟩

def setTab (l : List Int) : Obj → Obj
  | .cells _ t frozen => .cells (l.map (Value.int .u32)).toArray t frozen
  | o => o
noncomputable def laidWorld (os : Os) : World :=
  { World.holding Tryd.prog os ⟨#[], #[], []⟩ with heap := ((World.holding Tryd.prog os ⟨#[], #[], []⟩).heap.modify 1 (setTab LO)).modify 0 (setTab HI) }
theorem laid_met (os : Os) : laidMet Tryd.prog Rows.plogCutsRow.laid ((laidWorld os).forCall (fun _ _ => 0) ⟨#[], #[.int .i64 0, .int .i64 0, .int .i64 0, .slice none 0 0], []⟩).memory :=
  laidMet_of_run' 8 (by kernel_rfl) (by kernel_rfl)
theorem reads (os : Os) {H : Type} (enc : TypeId × Value → H) : ∃ places, DataW.whole enc Tryd.prog ((laidWorld os).forCall (fun _ _ => 0) ⟨#[], #[.int .i64 0, .int .i64 0, .int .i64 0, .slice none 0 0], []⟩).memory Tryd.f12.params.toList Rows.plogCutsSpec.vars false #[Value.int .i64 0, Value.int .i64 0, Value.int .i64 0, Value.slice none 0 0].toList 8 = some ([.lit (.int .i64 0), .lit (.int .i64 0), .lit (.int .i64 0), .nil], [], places) :=
  ⟨[], by kernel_rfl⟩

set_option maxRecDepth 100000 in
theorem lifted (os : Os) (started : os.Started) (H : Type) (enc : TypeId × Value → H) (F : Stop.Interp) :
    ReturnsInHanded {} Tryd.checked os 12 .any ((OpenSpec.ofChange Rows.plogCutsSpec).preRow enc Tryd.prog Tryd.f12 Rows.plogCutsRow.domain false Rows.plogCutsRow.laid) (((OpenSpec.ofChange Rows.plogCutsSpec).at F).post enc Tryd.prog Tryd.f12 false true false false) := by
  obtain ⟨places, hx⟩ := reads os enc
  refine returnsInHanded_of_row (C := Tryd.checked) (s := OpenSpec.ofChange Rows.plogCutsSpec) own started (by kernel_rfl) Tryd.func12
    (witness_row_at (enc := enc) (C := Tryd.checked) false (laidWorld os) #[.int .i64 0, .int .i64 0, .int .i64 0, .slice none 0 0] rfl (by kernel_rfl) (by kernel_rfl) (by kernel_rfl)
      (OpenSpec.preRow_of_cond 8 hx (by kernel_rfl) (fun k hk => by cases hk) (by kernel_rfl) (laid_met os))) ?_
  intro W base args ds gs before hval hW _ _ _ hL _ _
  exact contract H enc W base args ds gs before hval hW hL

theorem said : Rows.PlogCutsSaid :=
  OpenClaim.holds_of_cond 12 Tryd.f12 rfl rfl rfl rfl rfl rfl rfl ⟨rfl, rfl, rfl, rfl, rfl⟩ rfl rfl rfl rfl rfl (by kernel_rfl) Tryd.func12 (by kernel_rfl)
    (of_decide_eq_true (by kernel_rfl)) (by unfold Func.isWrapper; first | (rw [if_pos (by decide +kernel)]; kernel_rfl) | (rw [if_neg (by decide +kernel)]; exact ⟨rfl, rfl⟩))
    (fun os started H enc _ F => by rw [OpenClaim.pre_eq_preRow]; exact lifted os started H enc F)

theorem plain (f : FuncId) (fn : Func) (hf : Tryd.pinned.checked.prog.funcNamed "orchard/orchardlaw06.PlogCuts" = some f) (hfn : Tryd.pinned.checked.prog.funcs[f]? = some fn) :
    false = Tryd.pinned.checked.prog.looks [] ∧ ∀ (j : Nat) t, fn.params[j]? = some t → Tryd.pinned.checked.prog.wantsStandIn t = false := by
  obtain rfl : f = 12 := Option.some.inj ((show Tryd.prog.funcNamed "orchard/orchardlaw06.PlogCuts" = some 12 by kernel_rfl).symm.trans hf) |>.symm
  obtain rfl : fn = Tryd.f12 := (Option.some.inj (Tryd.func12.symm.trans hfn)).symm
  refine ⟨by kernel_rfl, fun j t ht => ?_⟩
  rw [Tryd.params12] at ht
  have hm := Array.mem_of_getElem? ht
  simp at hm
  rcases hm with rfl | rfl
  · exact (show Tryd.prog.wantsStandIn 3 = false by kernel_rfl)
  · exact (show Tryd.prog.wantsStandIn 46 = false by kernel_rfl)

theorem card : Rows.PlogCutsCardSaid :=
  Claim7.holds_tied_plain_at .later [] _ _ _ _ said (fun _ h => by cases h) (by kernel_rfl) (fun _ h => by cases h) plogCuts_row_tie rfl ⟨rfl, rfl⟩ (by kernel_rfl) rfl plain (by kernel_rfl)
end Go.Proofs.YtpkhhecmddpnmaaDoor.plogCuts
