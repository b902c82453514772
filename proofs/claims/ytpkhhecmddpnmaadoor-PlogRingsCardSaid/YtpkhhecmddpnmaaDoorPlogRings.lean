/- PlogRings: round and round, as many entries as one likes, if those ahead are dropped: each is there until it is; no condition on the input (the two tables start as the program text lays them). -/
import Derived.Test.YtpkhhecmddpnmaaDoorPlogRgt
import Derived.Test.YtpkhhecmddpnmaaDoorCards
import Derived.Test.YtpkhhecmddpnmaaDoorTie
import Derived.ProofKit
import Derived.OpenShut
import Derived.ShutString
import Derived.ChangeOld
import Derived.Deep.DeepHandedRow
import Derived.Lib.LaidTab
import Derived.Stop.LaidErr
namespace Go.Proofs.YtpkhhecmddpnmaaDoor.plogRings
open Go.ChangeShapes Go.WideShapes Go.ChangeAt Go.RowKit
open Go.ChangeMaps (open_string shut_string)
set_option linter.unusedVariables false
set_option maxRecDepth 100000
theorem u8_in (z : Int) (h : 0 ≤ z ∧ z ≤ 255) : IntKind.u8.wrap z = z := by rw [IntKind.wrap_u8]; omega
def bI (k : Nat) : UInt8 := UInt8.ofNat (k + 1)
/-- The entry of a round. -/
def enI (k : Nat) : En := ⟨(k : Int) + 1, 1 + ((k : Int) + 1) / 5, ⟨#[bI k]⟩⟩
theorem enI_ok (k : Nat) (hk : k ≤ 63) : (enI k).ok = true := by
  have h1 : (1 : Int) ≤ 1 + ((k : Int) + 1) / 5 := by omega
  have h2 : 1 + ((k : Int) + 1) / 5 ≤ 1099511627776 := by omega
  have h3 : (⟨#[bI k]⟩ : ByteArray).size ≤ 488 := by show (1 : Nat) ≤ 488; decide
  unfold En.ok enI
  exact decide_eq_true ⟨h1, h2, h3⟩
theorem enI_cells (k : Nat) (hk : k ≤ 63) : cellsOf [bI k] = [.int .u8 ((k : Int) + 1)] := by
  unfold cellsOf bI
  simp
  omega
/-- What a round starts from. -/
def RgRel (m wb keep k : Nat) (w1 wr : World) : Prop := ∃ first xs, Wl m wb wr first xs 20000 ∧ first + (xs.length : Int) = (k : Int) + 1 ∧ xs.length ≤ keep ∧ Below m w1 wr
theorem RgRel.below {m wb keep k : Nat} {w1 wr : World} (h : RgRel m wb keep k w1 wr) : Below m w1 wr := by
  obtain ⟨_, _, _, _, _, h⟩ := h
  exact h
/-- Within the dropping. -/
def InR (m wb keep k d : Nat) (w1 wx : World) : Prop := ∃ (f : Int) (ys : List En), Wl m wb wx f ys 20001 ∧ f + (ys.length : Int) = (k : Int) + 2 ∧ ys.length ≤ keep + d ∧ Below m w1 wx
/-- Behind the growth of what should be there. -/
def PushRel (m wb : Nat) (w1 : World) (first : Int) (ys : List En) (wx : World) : Prop := Wl m wb wx first ys 20001 ∧ Below m w1 wx
theorem PushRel.mk {m wb : Nat} {w1 w : World} {E : Nat → Prop} {B b bt bd : Nat} {D : Dv} {first : Int} {xs : List En} {va vm : Value} (h : WlIn m wb w E B b bt bd D first xs 20001 va vm) (hb : Below m w1 w) : PushRel m wb w1 first xs w := ⟨⟨E, B, b, bt, bd, D, va, vm, h⟩, hb⟩
/-- Behind the Append of a round. -/
def ApR (m : Nat) (E : Nat → Prop) (wr : World) (wb B b bt bd g : Nat) (first : Int) (ys : List En) (xs : List En) (x : En) (va vm : Value) (wx : World) : Prop :=
  ∃ D', Lw m E wx b B bt bd 19 3 8 first ys 20001 D' ∧ Unsp D' ∧ WldB wx wb B b first va vm ∧ EnA (But E b bt bd) wx va xs ∧ EnB wx g x ∧ Below m wr wx
theorem ApR.facts {m : Nat} {E : Nat → Prop} {wr : World} {wb B b bt bd g : Nat} {first : Int} {ys xs : List En} {x : En} {va vm : Value} {wx : World} (h : ApR m E wr wb B b bt bd g first ys xs x va vm wx) : WldB wx wb B b first va vm ∧ EnB wx g x := by
  obtain ⟨_, _, _, h1, _, h2, _⟩ := h
  exact ⟨h1, h2⟩
set_option maxHeartbeats 4000000 in
theorem walk (a0 a1 : Int) (w : World) (w0 : (Lit.int .i64 a0).wf = true) (w1 : (Lit.int .i64 a1).wf = true) (hT : Tabs w) :
    Calls Tryd.prog 10 #[.int .i64 a0, .int .i64 a1] w fun e w' => e = .returned (.bool true) ∧ Below w.heap.size w w' := by
  have HT := Lib.hid (fun (x : World) (hb : Below w.heap.size w x) => hT.below hb)
  obtain ⟨q0, hq0⟩ : ∃ q : Int, q = a0 % 64 := ⟨_, rfl⟩
  obtain ⟨n, hn⟩ : ∃ n : Nat, (n : Int) = q0 := ⟨q0.toNat, by omega⟩
  have h0 : bits .and .i64 a0 63 = (n : Int) := by rw [i64_and63, hn, hq0]
  have hn6 : n ≤ 63 := by omega
  obtain ⟨q1, hq1⟩ : ∃ q : Int, q = a1 % 8 := ⟨_, rfl⟩
  obtain ⟨keep, hkp⟩ : ∃ n : Nat, (n : Int) = q1 := ⟨q1.toNat, by omega⟩
  have h1 : bits .and .i64 a1 7 = (keep : Int) := by rw [i64_and7, hkp, hq1]
  have hk7 : keep ≤ 7 := by omega
  clear hT hq0 hn hq1 hkp
  go_enter Tryd.func10, Tryd.ntmps10
  go_wp2_with fail
  refine (phead_any w HT.out).mono ?_
  rintro e w1 ⟨rfl, hb1⟩
  go_wp2_with fail
  refine (pnew_any w1 (fun x hx => HT.out x (hb1.trans (hx.mono hb1.size)))).mono ?_
  rintro e w2 hN
  obtain ⟨wb, E, B, b, bt, bd, D2, rfl, W2, hb2⟩ := wl_new hN
  have HTb := Lib.hid (fun (x : World) (hx : Below w1.heap.size w1 x) => HT.out x (hb1.trans (hx.mono hb1.size)))
  have R0 : RgRel w1.heap.size wb keep 0 w1 w2 := ⟨1, [], ⟨E, B, b, bt, bd, D2, _, _, W2.mono (by decide)⟩, rfl, Nat.zero_le _, hb2⟩
  clear h0 h1 hN W2 hb2
  go_wp2_with fail
  go_loopw [6] (fun i wr => ∃ k : Nat, k ≤ n ∧ i = .int .i64 ((k : Int) + 1) ∧ RgRel w1.heap.size wb keep k w1 wr) (fun i _ => n + 1 - (intOf i).toNat)
  case atStart => exact ⟨0, by omega, rfl, R0⟩
  case round =>
    obtain ⟨k, hk, rfl, HR⟩ := hrel
    clear R0
    by_cases hlt : k < n
    · have hlt' : (k : Int) + 1 ≤ (n : Int) := by omega
      have hk0 : (0 : Int) ≤ (k : Int) := by omega
      have hk63 : (k : Int) ≤ 62 := by omega
      obtain ⟨first, xs, ⟨E1, B1, b1, bt1, bd1, D1, va, vm, Wk⟩, hfx, hxk, Bk⟩ := HR
      have hf1 := Wk.lw.neat.ents.first
      simp only at hf1
      have e1 : IntKind.u8.wrap ((k : Int) + 1) = (k : Int) + 1 := u8_in _ (by omega)
      have e2 : ((k : Int) + 1).tdiv 5 = ((k : Int) + 1) / 5 := Int.tdiv_eq_ediv_of_nonneg (by omega)
      have hs0 := src_new wr [bI k] 1
      rw [enI_cells k (by omega)] at hs0
      have hrun : (convert 43 9 (.slice (some ⟨wr.heap.size, 0, none⟩) 1 1)).run Tryd.prog (wr.alloc (.cells #[.int .u8 ((k : Int) + 1)] 5)) = .ok (.string ⟨#[bI k]⟩) (wr.alloc (.cells #[.int .u8 ((k : Int) + 1)] 5)) := run_str hs0
      have X := Lib.hid (rfl : enI k = ⟨(k : Int) + 1, 1 + ((k : Int) + 1) / 5, ⟨#[bI k]⟩⟩)
      have NA : EnB ((wr.alloc (.cells #[.int .u8 ((k : Int) + 1)] 5)).alloc (.cells #[.int .i64 ((k : Int) + 1), .int .i64 (1 + ((k : Int) + 1) / 5), .string ⟨#[bI k]⟩] 69)) (wr.heap.size + 1) (enI k) := by
        have := EnB.new (wr.alloc (.cells #[.int .u8 ((k : Int) + 1)] 5)) (enI k)
        rw [World.size_alloc] at this
        exact this
      have BA := ((Below.refl wr.heap.size wr).alloc (Nat.le_refl _) (.cells #[.int .u8 ((k : Int) + 1)] 5)).alloc (by simp) (.cells #[.int .i64 ((k : Int) + 1), .int .i64 (1 + ((k : Int) + 1) / 5), .string ⟨#[bI k]⟩] 69)
      clear hs0
      go_upto_region 12 with fail
      generalize (wr.alloc (.cells #[.int .u8 ((k : Int) + 1)] 5)).alloc (.cells #[.int .i64 ((k : Int) + 1), .int .i64 (1 + ((k : Int) + 1) / 5), .string ⟨#[bI k]⟩] 69) = w2 at NA BA ⊢
      have hms := Wk.size
      have hxi : (enI k).index = first + (xs.length : Int) := by show (k : Int) + 1 = _; omega
      have HAP : Hid (∀ W, Below w2.heap.size w2 W → EnB W w2.heap.size (enI k) → w2.heap.size < W.heap.size → Calls Tryd.prog 42 #[.pointer (some ⟨b1, 0, none⟩), .slice (some ⟨w2.heap.size, 0, none⟩) 1 1] W fun e w' => e = .returned (.int .i64 0) ∧ ApR w1.heap.size E1 wr wb B1 b1 bt1 bd1 (wr.heap.size + 1) first (xs ++ [enI k]) xs (enI k) va vm w') := by
        intro W hb hN hs
        have hbW := BA.trans (hb.mono BA.size)
        have hv : EnS (Made E1 b1 bt1 bd1 wr W) W (.slice (some ⟨w2.heap.size, 0, none⟩) 1 1) [enI k] := by
          refine ⟨_, 1, rfl, by simp, .inr ⟨w2.heap.size, rfl, .inr ⟨BA.size, hs⟩, hs, fun j y hy => ?_⟩⟩
          rcases j with _ | j
          · obtain rfl : enI k = y := by simpa using hy
            exact hN.cells.1
          · simp at hy
        refine (lw_appW Wk.lw (by decide) W hbW _ [enI k] hv (fun j y hy => ?_) (by simp; omega) hms (fun y hy => HTb.out y (Bk.trans hy)) (by decide)).mono ?_
        · rcases j with _ | j
          · obtain rfl : enI k = y := by simpa using hy
            exact ⟨by rw [hxi]; omega, enI_ok k (by omega)⟩
          · simp at hy
        · rintro e w' ⟨rfl, ⟨D', hL, hu⟩, hbl, hk'⟩
          obtain ⟨⟨o1, o2, o3⟩, _⟩ := Wk.lw.own
          refine ⟨rfl, D', hL.less (fun j hj => .inl hj) o1 o2 o3, hu Wk.pure, (Wk.wld.below hbW).keep hk' (Or.inl Wk.but), ?_, ?_, (hbW.mono hms).trans hbl⟩
          · exact ((Wk.below hbW).all).keep hk' (fun j hj => Or.inl hj) hbl.size
          · exact ((hb.block _ NA.lt).trans NA |> fun h => (hk' (wr.heap.size + 1) (Or.inr ⟨Nat.le_succ _, Nat.lt_of_lt_of_le NA.lt hb.size⟩)).trans h)
      have W2 := Wk.wld.below BA
      obtain ⟨⟨n0, n1, n2⟩, nz⟩ := NA.cells
      clear nz
      have v1 := W2.cells.1.2.1
      have BB : Below w2.heap.size w2 (w2.alloc (.cells #[.int .i64 (enI k).index, .int .i64 (enI k).term, .string (enI k).data] 69)).drew := ((Below.refl _ w2).alloc (Nat.le_refl _) _).drew
      have NB : EnB (w2.alloc (.cells #[.int .i64 (enI k).index, .int .i64 (enI k).term, .string (enI k).data] 69)).drew w2.heap.size (enI k) := EnB.new w2 (enI k)
      have SB : w2.heap.size < (w2.alloc (.cells #[.int .i64 (enI k).index, .int .i64 (enI k).term, .string (enI k).data] 69)).drew.heap.size := by show _ < (w2.alloc _).heap.size; simp
      have y1 : ¬ wb = w2.heap.size := Nat.ne_of_lt W2.lt
      have y2 : ¬ w2.heap.size = wb := Nat.ne_of_gt W2.lt
      have y3 : ¬ wr.heap.size + 1 = w2.heap.size := Nat.ne_of_lt NA.lt
      have y4 : ¬ w2.heap.size = wr.heap.size + 1 := Nat.ne_of_gt NA.lt
      have HFX := Lib.hid hfx
      clear e1 e2 hrun X hfx hxi
      go_cut [40] (fun q wx => q = .bool false ∧ ApR w1.heap.size E1 wr wb B1 b1 bt1 bd1 (wr.heap.size + 1) first (xs ++ [enI k]) xs (enI k) va vm wx)
      case first =>
        go_region_held3 (fun w' => w'.cell? ⟨wb, 1, none⟩ = some (.pointer (some ⟨b1, 0, none⟩)) ∧ w'.cell? ⟨wr.heap.size + 1, 0, none⟩ = some (.int .i64 (enI k).index) ∧ w'.cell? ⟨wr.heap.size + 1, 1, none⟩ = some (.int .i64 (enI k).term) ∧ w'.cell? ⟨wr.heap.size + 1, 2, none⟩ = some (.string (enI k).data)) (first | (with_reducible assumption) | (refine ⟨?_, ?_, ?_, ?_⟩ <;> with_reducible assumption) | go_keep)
          ((go_at_call 42; refine (HAP.out _ ?hBa ?hBb ?hBc).mono ?_; (case hBa => with_reducible exact BB); (case hBb => with_reducible exact NB); (case hBc => with_reducible exact SB); rintro e w3 ⟨rfl, HA⟩; obtain ⟨V3, N3⟩ := HA.facts; obtain ⟨_, z1, _⟩ := V3.cells.1; obtain ⟨⟨z2, z3, z4⟩, _⟩ := N3.cells))
        go_wp2_with fail
        go_meet
        exact ⟨rfl, HA⟩
      case rest =>
        obtain ⟨rfl, D3, L3, U3, V3, A3, N3, B3⟩ := hcut
        clear HAP W2 n0 n1 n2 v1 BB NB SB y1 y2 y3 y4 NA BA
        obtain ⟨a, cap, rfl, hcap, hnone, hspot⟩ := Wk.cap
        have hwbm := Wk.mwb
        have hbut := Wk.but
        have hB3 := Bk.trans B3
        obtain ⟨i0, hi0, hz0, hz1, hz2⟩ := info_parts info_en
        have hms3 : w1.heap.size ≤ wc.heap.size := hB3.size
        have HPU : Hid (∀ (v4 : Value) (w4 : World), w4.ownsRow wc.heap.size 69 3 v4 (xs.length + 1) (enCells xs ++ enCells [enI k]) → Below wc.heap.size wc w4 →
            ∃ g4 cap4, v4 = .slice (some ⟨g4, 0, none⟩) (xs.length + 1) cap4 ∧ PushRel w1.heap.size wb w1 first (xs ++ [enI k]) (w4.setCell ⟨wb, 3, none⟩ (.slice (some ⟨g4, 0, none⟩) (xs.length + 1) cap4))) := by
          intro v4 w4 hown b34
          have hl1 : (xs ++ [enI k]).length = xs.length + 1 := by simp
          rw [← hl1, ← enCells_append] at hown
          obtain ⟨g4, cap4, rfl, h4⟩ := wl_push L3 V3 hbut hwbm hms3 U3 b34 hown (by rw [hl1]; omega) (by rw [hl1]; omega) (Nat.le_refl _)
          rw [hl1] at h4 ⊢
          exact ⟨g4, cap4, rfl, PushRel.mk h4 ((hB3.trans (b34.mono hms3)).setCell (p := ⟨wb, 3, none⟩) hwbm _)⟩
        have HDR : ∀ (W : World), Below wc.drew.heap.size wc.drew W → Below wc.heap.size wc W := fun W h => ((Below.refl wc.heap.size wc).drew).trans h
        have HRE := Lib.hid (fun (W : World) (h : Below wc.drew.heap.size wc.drew W) => show (∀ b, a = some b → ∀ j u, (enCells xs)[j]? = some u → W.cell? (b.add j) = some u) from EnA.reads (c := cap) (A3.keep (Kept.of_below (fun j hj => L3.dev.lt j hj.1) (HDR W h)) (fun _ h => h) (HDR W h).size))
        have HWZ := Lib.hid (fun (W : World) (h : Below wc.drew.heap.size wc.drew W) => show W.cell? ⟨wb, 3, none⟩ = some (.slice a xs.length cap) from (WldB.below (w := wc.drew) V3 h).cells.1.2.2.2.1)
        have HWF := Lib.hid (fun (W : World) (h : Below wc.drew.heap.size wc.drew W) => show W.frozen? ⟨wb, 3, none⟩ = false from (WldB.below (w := wc.drew) V3 h).cells.2.2.2.2.1)
        have HWE := Lib.hid (fun (W : World) (h : Below wc.drew.heap.size wc.drew W) => show EnB W (wr.heap.size + 1) (enI k) from EnB.below (w := wc.drew) N3 h)
        have HNC := Lib.hid hcap
        have HNA : Hid (a = none → xs.length = 0 ∧ xs.length = 0) := fun h => by have := hnone h; omega
        have HLN := Lib.hid (enCells_length xs)
        have HN1 : Hid (xs.length ≤ 10000) := by show xs.length ≤ 10000; omega
        clear Wk Bk i0 hi0 hz0 hz1 hz2 hnone hspot hcap
        go_upto_region 14 with fail
        go_cut [7] (fun p wx => p = .pointer (some ⟨wr.heap.size + 1, 0, none⟩) ∧ PushRel w1.heap.size wb w1 first (xs ++ [enI k]) wx)
        case first =>
          refine wp_region_steps_last 21 (FRg wc.drew.heap.size wb (wr.heap.size + 1) a xs.length cap xs (enI k)) (fun w w' => Below w.heap.size w w') (by kernel_rfl) (by kernel_rfl) (by kernel_rfl) (by kernel_rfl) (by kernel_rfl) (Below.refl _ _) ?_ (fun u v w h1 h2 => h1.trans (h2.mono h1.size)) ?_ ?_
          · intro i v w w' _ h1 h2
            exact FRg_keep h2 i h1
          · intro i o hi ho x w1 hR hF
            match i, ho with
            | 0, ho =>
              obtain rfl := Option.some.inj ho
              exact gstep_move rfl (wanted0 rfl) _ rfl _ (eval_of 5 _ (by kernel_rfl) rfl) ⟨_, rfl, rfl, Below.refl _ _⟩
            | 1, ho =>
              obtain rfl := Option.some.inj ho
              exact gstep_move rfl (wanted0 rfl) _ rfl _ (eval_of 5 _ (by kernel_rfl) rfl) ⟨_, rfl, rfl, Below.refl _ _⟩
            | 2, ho =>
              obtain rfl := Option.some.inj ho
              exact gstep_nil rfl (wanted0 rfl) _ rfl _ (eval_at 42 1 _ (by kernel_rfl) (show 42 < 119 by decide) (hF 1 (by kernel_rfl))) ⟨_, rfl, rfl, Below.refl _ _⟩
            | 3, ho =>
              obtain rfl := Option.some.inj ho
              exact gstep_field rfl (wanted0 rfl) _ _ _ rfl _ (eval_at 43 2 _ (by kernel_rfl) (show 43 < 119 by decide) (hF 2 (by kernel_rfl))) _ (run_wldf w1 _) ⟨_, rfl, rfl, Below.refl _ _⟩
            | 4, ho =>
              obtain rfl := Option.some.inj ho
              exact gstep_load rfl (wanted0 rfl) _ _ rfl _ (eval_at 44 3 _ (by kernel_rfl) (show 44 < 119 by decide) (hF 3 (by kernel_rfl))) _ (run_loadZ w1 _ _ _ _ (HWZ.out w1 hR)) ⟨_, rfl, rfl, Below.refl _ _⟩
            | 5, ho =>
              obtain rfl := Option.some.inj ho
              exact gstep_move rfl (wanted0 rfl) _ rfl _ (eval_of 5 _ (by kernel_rfl) rfl) ⟨_, rfl, rfl, Below.refl _ _⟩
            | 6, ho =>
              obtain rfl := Option.some.inj ho
              exact gstep_nil rfl (wanted0 rfl) _ rfl _ (eval_at 46 5 _ (by kernel_rfl) (show 46 < 119 by decide) (hF 5 (by kernel_rfl))) ⟨_, rfl, rfl, Below.refl _ _⟩
            | 7, ho =>
              obtain rfl := Option.some.inj ho
              exact gstep_field rfl (wanted0 rfl) _ _ _ rfl _ (eval_at 47 6 _ (by kernel_rfl) (show 47 < 119 by decide) (hF 6 (by kernel_rfl))) _ (run_wldf w1 _) ⟨_, rfl, rfl, Below.refl _ _⟩
            | 8, ho =>
              obtain rfl := Option.some.inj ho
              exact gstep_load rfl (wanted0 rfl) _ _ rfl _ (eval_at 48 7 _ (by kernel_rfl) (show 48 < 119 by decide) (hF 7 (by kernel_rfl))) _ (run_loadZ w1 _ _ _ _ (HWZ.out w1 hR)) ⟨_, rfl, rfl, Below.refl _ _⟩
            | 9, ho =>
              obtain rfl := Option.some.inj ho
              exact gstep_len rfl (wanted0 rfl) _ rfl _ _ _ (eval_at 49 8 _ (by kernel_rfl) (show 49 < 119 by decide) (hF 8 (by kernel_rfl))) ⟨_, rfl, rfl, Below.refl _ _⟩
            | 10, ho =>
              obtain rfl := Option.some.inj ho
              exact gstep_move rfl (wanted0 rfl) _ rfl _ (eval_of 5 _ (by kernel_rfl) rfl) ⟨_, rfl, rfl, Below.refl _ _⟩
            | 11, ho =>
              obtain rfl := Option.some.inj ho
              exact gstep_nil rfl (wanted0 rfl) _ rfl _ (eval_at 51 10 _ (by kernel_rfl) (show 51 < 119 by decide) (hF 10 (by kernel_rfl))) ⟨_, rfl, rfl, Below.refl _ _⟩
            | 12, ho =>
              obtain rfl := Option.some.inj ho
              exact gstep_field rfl (wanted0 rfl) _ _ _ rfl _ (eval_at 52 11 _ (by kernel_rfl) (show 52 < 119 by decide) (hF 11 (by kernel_rfl))) _ (run_wldf w1 _) ⟨_, rfl, rfl, Below.refl _ _⟩
            | 13, ho =>
              obtain rfl := Option.some.inj ho
              exact gstep_load rfl (wanted0 rfl) _ _ rfl _ (eval_at 53 12 _ (by kernel_rfl) (show 53 < 119 by decide) (hF 12 (by kernel_rfl))) _ (run_loadZ w1 _ _ _ _ (HWZ.out w1 hR)) ⟨_, rfl, rfl, Below.refl _ _⟩
            | 14, ho =>
              obtain rfl := Option.some.inj ho
              exact gstep_len rfl (wanted0 rfl) _ rfl _ _ _ (eval_at 54 13 _ (by kernel_rfl) (show 54 < 119 by decide) (hF 13 (by kernel_rfl))) ⟨_, rfl, rfl, Below.refl _ _⟩
            | 15, ho =>
              obtain rfl := Option.some.inj ho
              exact gstep_cut rfl (wanted0 rfl) _ _ _ rfl _ _ _ HNC.out (eval_at 45 4 _ (by kernel_rfl) (show 45 < 119 by decide) (hF 4 (by kernel_rfl))) (eval_at 50 9 _ (by kernel_rfl) (show 50 < 119 by decide) (hF 9 (by kernel_rfl))) (eval_at 55 14 _ (by kernel_rfl) (show 55 < 119 by decide) (hF 14 (by kernel_rfl))) ⟨_, rfl, rfl, Below.refl _ _⟩
            | 16, ho =>
              obtain rfl := Option.some.inj ho
              exact gstep_load rfl (wanted0 rfl) _ _ rfl _ (eval_of 7 _ (by kernel_rfl) rfl) _ (run_loadE w1 _ _ (HWE.out w1 hR)) ⟨_, rfl, rfl, Below.refl _ _⟩
            | 17, ho =>
              obtain rfl := Option.some.inj ho
              exact gstep_row rfl (wanted0 rfl) _ rfl _ (eval_at 57 16 _ (by kernel_rfl) (show 57 < 119 by decide) (hF 16 (by kernel_rfl))) ⟨_, rfl, ⟨w1.heap.size, rfl, EnB.new w1 _⟩, (Below.refl _ _).alloc (Nat.le_refl _) _⟩
            | 18, ho =>
              obtain rfl := Option.some.inj ho
              obtain ⟨g, hg, hE⟩ := hF 17 (by kernel_rfl)
              refine gstep_push rfl (wanted0 rfl) rfl _ _ rfl a xs.length (enCells xs) (eval_at 56 15 _ (by kernel_rfl) (show 56 < 119 by decide) (hF 15 (by kernel_rfl))) HNA.out HLN.out (fun b hb => HRE.out w1 hR b hb) g (enI k) (eval_at 58 17 _ (by kernel_rfl) (show 58 < 119 by decide) hg) hE HN1.out ?_
              intro v' w' hown hgrow
              exact ⟨_, rfl, ownsRow_less hown hR.size, (Below.refl _ _).grown hgrow (Nat.le_refl _) (fun j hj => by cases hj)⟩
            | 19, ho =>
              obtain rfl := Option.some.inj ho
              exact gstep_nil rfl (wanted0 rfl) _ rfl _ (eval_at 41 0 _ (by kernel_rfl) (show 41 < 119 by decide) (hF 0 (by kernel_rfl))) ⟨_, rfl, rfl, Below.refl _ _⟩
            | 20, ho =>
              obtain rfl := Option.some.inj ho
              exact gstep_field rfl (wanted0 rfl) _ _ _ rfl _ (eval_at 60 19 _ (by kernel_rfl) (show 60 < 119 by decide) (hF 19 (by kernel_rfl))) _ (run_wldf w1 _) ⟨_, rfl, rfl, Below.refl _ _⟩
            | n + 21, ho => exact absurd hi (by omega)
          · intro o ho x w5 hR hF
            obtain rfl := Option.some.inj ho
            obtain ⟨g4, cap4, hv4, HPR⟩ := HPU.out _ _ (hF 18 (by decide)) (HDR _ hR)
            refine gstep_store rfl (wanted0 rfl) _ _ _ rfl _ _ (eval_at 61 20 _ (by kernel_rfl) (show 61 < 119 by decide) (hF 20 (by decide))) (eval_at 59 18 _ (by kernel_rfl) (show 59 < 119 by decide) hv4) _ (run_storeZ w5 _ (.pointer none) _ _ _ _ (HWZ.out w5 hR) (HWF.out w5 hR)) ?_
            simp only [putAll, Act.put, List.setIfInBounds_toArray, List.set_cons_succ, List.set_cons_zero]
            go_wp2_with fail
            go_meet
            exact ⟨rfl, HPR⟩
        case rest =>
          obtain ⟨rfl, HPR⟩ := hcut
          have hfl : first + ((xs ++ [enI k]).length : Int) = (k : Int) + 2 := by
            have := HFX.out
            rw [List.length_append, List.length_singleton]
            omega
          have I0 : InR w1.heap.size wb keep k 1 w1 wc := ⟨first, xs ++ [enI k], HPR.1, hfl, by rw [List.length_append, List.length_singleton]; omega, HPR.2⟩
          clear HPR hfl HPU HRE HWZ HWF HWE HNC HNA HLN HN1 HDR L3 U3 V3 A3 N3 B3 hwbm hbut hB3
          go_wp2_with fail
          go_loopg [] 1 (fun d wx => InR w1.heap.size wb keep k d w1 wx)
          case atStart => exact I0
          case round =>
            obtain ⟨f, ys, ⟨E4, C4, b4, bt4, bd4, D4, va4, vm4, W4⟩, hfy, hyk, B4⟩ := hrel
            clear I0
            obtain ⟨a4, c4, rfl, hc4, hn4, hs4⟩ := W4.cap
            have HCP := Lib.hid W4.cap
            have p3 := W4.wld.cells.1.2.2.2.1
            have hfi := W4.lw.neat.ents.fits
            simp only at hfi
            have hy0 : (0 : Int) ≤ (ys.length : Int) := by omega
            have hy8 : (ys.length : Int) ≤ 8 := hfi
            by_cases hlk : ys.length ≤ keep
            · have hlk' : (ys.length : Int) ≤ (keep : Int) := by omega
              have HSH := Lib.hid (wl_shows W4 (fun y hy => HTb.out y (B4.trans hy)) (by decide))
              clear W4
              go_wp2_with fail
              refine HSH.out.mono ?_
              rintro e w6 ⟨rfl, W6, hb6⟩
              have B6 := B4.trans hb6
              clear HSH B4 hb6 p3
              have HOP := Lib.hid (lw_open (base := 3) (sz := 8) W6.lw.dev.drew W6.lw.neat (by decide) (Nat.le_trans W6.size (Nat.le_refl _)) (fun y hy => HTb.out y (B6.drew.trans hy)))
              have V6d : WldB w6.drew wb C4 b4 f (.slice a4 ys.length c4) vm4 := W6.wld
              have p0 := W6.wld.cells.1.1
              have p2 := W6.wld.cells.1.2.2.1
              have hwl := W6.wld.lt
              have HW6 := Lib.hid W6
              clear W6
              go_upto_region 22 with fail
              go_region_held3 (fun w' => w'.cell? ⟨wb, 0, none⟩ = some (.pointer (some ⟨C4, 0, none⟩)) ∧ w'.cell? ⟨wb, 2, none⟩ = some (.int .i64 f)) (first | (with_reducible assumption) | (refine ⟨?_, ?_⟩ <;> with_reducible assumption) | go_keep)
                ((go_at_call 37; refine HOP.out.mono ?_; rintro e w7 ⟨b3, bt3, bd3, D3, rfl, L3, hu3, hb3, hk3, hs3⟩; have V3 := V6d.keep hk3 HW6.out.but.1; have q0 := V3.cells.1.1; have q2 := V3.cells.1.2.2.1))
              have B7 := B6.drew.trans hb3
              have A3 := ena_open (HW6.out.all.keep (w' := w6.drew) (G := But E4 b4 bt4 bd4) (fun _ _ => rfl) (fun _ h => h) (Nat.le_refl _)) (fun j hj => hk3 j hj.1) hb3.size L3 (fun j hj => .inl hj.1) hs3
              have hne : wb ≠ b3 := by have : w6.drew.heap.size = w6.heap.size := rfl; omega
              have but3 := L3.but (.inl HW6.out.but.1) V3 hne
              have hmw := HW6.out.mwb
              have B8 := B7.setCell (p := ⟨wb, 1, none⟩) hmw (.pointer (some ⟨b3, 0, none⟩))
              have W8 : WlIn w1.heap.size wb (w7.setCell ⟨wb, 1, none⟩ (.pointer (some ⟨b3, 0, none⟩))) _ C4 b3 bt3 bd3 D3 f ys 10000 (.slice a4 ys.length c4) vm4 := ⟨L3.setOut but3 hmw 1 _, V3.setLog b3, A3.setW V3 HCP.out 1 _, HCP.out, but3, hmw, B8.size, hu3 HW6.out.pure⟩
              have q1 := V3.cells.1.2.1
              have f1 := V3.cells.2.2.1
              have HSH := Lib.hid (wl_shows W8 (fun y hy => HTb.out y (B8.trans hy)) (by decide))
              clear hu3 hb3 hk3 hs3 A3 L3 but3 hne HOP V6d p0 p2 B7 B6 V3 HW6 W8
              go_upto_region 26 with fail
              generalize w7.setCell ⟨wb, 1, none⟩ (.pointer (some ⟨b3, 0, none⟩)) = w8 at B8 HSH ⊢
              clear q0 q1 q2 f1
              go_wp2_with fail
              refine HSH.out.mono ?_
              rintro e w9 ⟨rfl, W9, hb9⟩
              have R9 : RgRel w1.heap.size wb keep (k + 1) w1 w9 := ⟨f, ys, ⟨_, _, _, _, _, _, _, _, W9.mono (by omega)⟩, by push_cast; omega, hlk, B8.trans hb9⟩
              clear W9 hb9 B8 HSH
              go_wp2_with fail
              go_roundw
              case rel => exact ⟨k + 1, by omega, by go_num, R9⟩
              case measure => simp [intOf]; omega
            · have hlk' : (keep : Int) < (ys.length : Int) := by omega
              have hf1 := W4.lw.neat.ents.first
              simp only at hf1
              have e1 : IntKind.i64.wrap (f + 1) = f + 1 := IntWalk.i64_in _ (by omega)
              have HDP := Lib.hid (lw_drop (W4.lw.below (Below.refl _ wr).drew) (by decide) (f := f + 1) (by omega) (by omega) (by omega) (Nat.le_trans W4.size (Nat.le_refl _)))
              have p1 := W4.wld.cells.1.2.1
              have p2 := W4.wld.cells.1.2.2.1
              have V4d : WldB wr.drew wb C4 b4 f (.slice a4 ys.length c4) vm4 := W4.wld
              have HW4 := Lib.hid W4
              clear W4
              go_upto_region 16 with fail
              go_region_held3 (fun w' => w'.cell? ⟨wb, 1, none⟩ = some (.pointer (some ⟨b4, 0, none⟩)) ∧ w'.cell? ⟨wb, 2, none⟩ = some (.int .i64 f)) (first | (with_reducible assumption) | (refine ⟨?_, ?_⟩ <;> with_reducible assumption) | go_keep)
                ((go_at_call 44; refine HDP.out.mono ?_; rintro e w6 ⟨rfl, L6, hb6, hk6⟩; have V6 := V4d.keep hk6 HW4.out.but; have q1 := V6.cells.1.2.1; have q2 := V6.cells.1.2.2.1))
              have q3 := V6.cells.1.2.2.2.1
              obtain ⟨_, _, f2, f3, _⟩ := V6.cells.2
              have HTL := Lib.hid (fun (v : Value) => HW4.out.tail L6 hb6 hk6 (by omega) v)
              have hg1 : 1 ≤ gk := by omega
              clear HW4 L6 hb6 hk6 V6 V4d HDP HCP p1 p2 p3
              go_upto_region 20 with fail
              all_goals
                go_roundg (gk - 1)
                case measure => omega
                case rel =>
                  first
                    | (obtain ⟨W8, B8⟩ := HTL.out _ (.inr rfl)
                       exact ⟨f + 1, ys.drop 1, ⟨_, _, _, _, _, _, _, _, W8⟩, by rw [List.length_drop]; omega, by rw [List.length_drop]; omega, B4.trans B8⟩)
                    | (obtain ⟨W8, B8⟩ := HTL.out _ (.inl ⟨by omega, rfl⟩)
                       exact ⟨f + 1, ys.drop 1, ⟨_, _, _, _, _, _, _, _, W8⟩, by rw [List.length_drop]; omega, by rw [List.length_drop]; omega, B4.trans B8⟩)
    · obtain rfl : k = n := by omega
      have Bk := HR.below
      clear HR
      go_wp2_with fail
      go_ret
      exact ⟨rfl, hb1.trans (Bk.mono hb1.size)⟩

theorem own : ownKnob Tryd.prog.godebug = none := by kernel_rfl
theorem laidOut : laidOutB Tryd.prog = true := by kernel_rfl
theorem gHi : Tryd.prog.globalNamed "orchard/sum.highTable" = some 0 := by kernel_rfl
theorem gLo : Tryd.prog.globalNamed "orchard/sum.lowTable" = some 1 := by kernel_rfl
theorem gHiType : (Tryd.prog.globals[0]?).map (·.type) = some 165 := by kernel_rfl
theorem gLoType : (Tryd.prog.globals[1]?).map (·.type) = some 165 := by kernel_rfl
theorem cellsTab : Tryd.prog.cellsOf 165 = 16 := by kernel_rfl
theorem cellsSum : Tryd.prog.cellsOf 158 = 1 := by kernel_rfl

theorem table_lo {W : World} (h : laidMetH Tryd.prog Rows.plogRingsRow.laid W) : Lib.TabIs Tryd.prog W "orchard/sum.lowTable" .u32 LO :=
  Lib.tabIs_of_head (rest := [("orchard/sum.highTable", Rows.laid_orchard_sum_highTable)]) gLo gLoType Tryd.underlying165 Tryd.underlying158 cellsSum cellsTab h
theorem table_hi {W : World} (h : laidMetH Tryd.prog Rows.plogRingsRow.laid W) : Lib.TabIs Tryd.prog W "orchard/sum.highTable" .u32 HI :=
  Lib.tabIs_of_head (rest := []) gHi gHiType Tryd.underlying165 Tryd.underlying158 cellsSum cellsTab (laidMet.tail (show laidMet Tryd.prog [("orchard/sum.lowTable", Rows.laid_orchard_sum_lowTable), ("orchard/sum.highTable", Rows.laid_orchard_sum_highTable)] W from h))
theorem tabs_of {W : World} (h : laidMetH Tryd.prog Rows.plogRingsRow.laid W) : Tabs W := by
  have c0 := fun (j : Nat) (hj : j < 16) => (table_hi h).cell gHi j hj
  have c1 := fun (j : Nat) (hj : j < 16) => (table_lo h).cell gLo j hj
  refine ⟨⟨World.block_lt_of_cell? W _ (c0 0 (by decide)), World.block_lt_of_cell? W _ (c1 0 (by decide))⟩, fun j hj => ?_, fun j hj => ?_⟩
  · rw [c0 j hj, hi_cast j]
  · rw [c1 j hj, lo_cast j]

theorem contract (H : Type) (enc : TypeId × Value → H) (W : World) (base : Nat) (args : Array Value) (ds gs : List (DataW H)) (before : List MemPlace)
    (hval : ∀ (j : Nat) t v, Tryd.f10.params[j]? = some t → args[j]? = some v → Value.okWide Tryd.prog W .any base t v)
    (hW : DataW.Whole enc Tryd.prog Tryd.f10.params.toList Rows.plogRingsSpec.vars false W args.toList ds gs before) (hL : laidMetH Tryd.prog Rows.plogRingsRow.laid W) :
    Calls Tryd.prog 10 args W fun e W' => ∃ v, e = .returned v ∧ Rows.plogRingsSpec.post enc Tryd.prog Tryd.f10 false true false false W args v W' := by
  have hT := tabs_of hL
  have hW' := hW
  obtain ⟨p, q, hA0, hV, rfl, hfz, hnd⟩ := hW
  have hA : DataW.TrodAll enc Tryd.prog W 0 (fun _ => true) true Tryd.f10.params.toList args.toList ds p := hA0
  rw [Tryd.params10] at hA hval
  obtain ⟨v0, vs0, d0, ds0, p0, q0, hargs, rfl, rfl, h0, r0⟩ := trodAll_cons hA
  obtain ⟨v1, vs1, d1, ds1, p1, q1, rfl, rfl, rfl, h1, r1⟩ := trodAll_cons r0
  obtain ⟨rfl, rfl, rfl⟩ := trodAll_nil r1
  obtain rfl : args = #[v0, v1] := by cases args; simp_all
  obtain ⟨rfl, rfl⟩ := trodVars_none hV
  obtain ⟨a0, rfl, rfl, rfl, w0⟩ := open_int Tryd.underlying3 (hval 0 3 v0 rfl rfl) h0
  obtain ⟨a1, rfl, rfl, rfl, w1⟩ := open_int Tryd.underlying3 (hval 1 3 v1 rfl rfl) h1
  clear hA0
  refine (walk a0 a1 W w0 w1 hT).mono fun e W' ⟨he, bel⟩ => ?_
  subst he
  exact ⟨_, rfl, _, _, _, [], _, [], hW', trodAll_mk1 (shut_bool Tryd.underlying4 _), (trodAll_cons_mk (shut_int Tryd.underlying3 w0) (trodAll_cons_mk (shut_int Tryd.underlying3 w1) trodAll_mk0)), rfl, bel.frame _, fun h => by cases h⟩

def setTab (l : List Int) : Obj → Obj
  | .cells _ t frozen => .cells (l.map (Value.int .u32)).toArray t frozen
  | o => o
noncomputable def laidWorld (os : Os) : World :=
  { World.holding Tryd.prog os ⟨#[], #[], []⟩ with heap := ((World.holding Tryd.prog os ⟨#[], #[], []⟩).heap.modify 1 (setTab LO)).modify 0 (setTab HI) }
theorem laid_met (os : Os) : laidMet Tryd.prog Rows.plogRingsRow.laid ((laidWorld os).forCall (fun _ _ => 0) ⟨#[], #[.int .i64 0, .int .i64 0], []⟩).memory :=
  laidMet_of_run' 8 (by kernel_rfl) (by kernel_rfl)
theorem reads (os : Os) {H : Type} (enc : TypeId × Value → H) : ∃ places, DataW.whole enc Tryd.prog ((laidWorld os).forCall (fun _ _ => 0) ⟨#[], #[.int .i64 0, .int .i64 0], []⟩).memory Tryd.f10.params.toList Rows.plogRingsSpec.vars false #[Value.int .i64 0, Value.int .i64 0].toList 8 = some ([.lit (.int .i64 0), .lit (.int .i64 0)], [], places) :=
  ⟨[], by kernel_rfl⟩

set_option maxRecDepth 100000 in
theorem lifted (os : Os) (started : os.Started) (H : Type) (enc : TypeId × Value → H) (F : Stop.Interp) :
    ReturnsInHanded {} Tryd.checked os 10 .any ((OpenSpec.ofChange Rows.plogRingsSpec).preRow enc Tryd.prog Tryd.f10 Rows.plogRingsRow.domain false Rows.plogRingsRow.laid) (((OpenSpec.ofChange Rows.plogRingsSpec).at F).post enc Tryd.prog Tryd.f10 false true false false) := by
  obtain ⟨places, hx⟩ := reads os enc
  refine returnsInHanded_of_row (C := Tryd.checked) (s := OpenSpec.ofChange Rows.plogRingsSpec) own started (by kernel_rfl) Tryd.func10
    (witness_row_at (enc := enc) (C := Tryd.checked) false (laidWorld os) #[.int .i64 0, .int .i64 0] rfl (by kernel_rfl) (by kernel_rfl) (by kernel_rfl)
      (OpenSpec.preRow_of_cond 8 hx (by kernel_rfl) (fun k hk => by cases hk) (by kernel_rfl) (laid_met os))) ?_
  intro W base args ds gs before hval hW _ _ _ hL _ _
  exact contract H enc W base args ds gs before hval hW hL

theorem said : Rows.PlogRingsSaid :=
  OpenClaim.holds_of_cond 10 Tryd.f10 rfl rfl rfl rfl rfl rfl rfl ⟨rfl, rfl, rfl, rfl, rfl⟩ rfl rfl rfl rfl rfl (by kernel_rfl) Tryd.func10 (by kernel_rfl)
    (of_decide_eq_true (by kernel_rfl)) (by unfold Func.isWrapper; first | (rw [if_pos (by decide +kernel)]; kernel_rfl) | (rw [if_neg (by decide +kernel)]; exact ⟨rfl, rfl⟩))
    (fun os started H enc _ F => by rw [OpenClaim.pre_eq_preRow]; exact lifted os started H enc F)

theorem plain (f : FuncId) (fn : Func) (hf : Tryd.pinned.checked.prog.funcNamed "orchard/orchardlaw06.PlogRings" = some f) (hfn : Tryd.pinned.checked.prog.funcs[f]? = some fn) :
    false = Tryd.pinned.checked.prog.looks [] ∧ ∀ (j : Nat) t, fn.params[j]? = some t → Tryd.pinned.checked.prog.wantsStandIn t = false := by
  obtain rfl : f = 10 := Option.some.inj ((show Tryd.prog.funcNamed "orchard/orchardlaw06.PlogRings" = some 10 by kernel_rfl).symm.trans hf) |>.symm
  obtain rfl : fn = Tryd.f10 := (Option.some.inj (Tryd.func10.symm.trans hfn)).symm
  refine ⟨by kernel_rfl, fun j t ht => ?_⟩
  rw [Tryd.params10] at ht
  have hm := Array.mem_of_getElem? ht
  simp at hm
  subst hm
  exact (show Tryd.prog.wantsStandIn 3 = false by kernel_rfl)

theorem card : Rows.PlogRingsCardSaid :=
  Claim7.holds_tied_plain_at .later [] _ _ _ _ said (fun _ h => by cases h) (by kernel_rfl) (fun _ h => by cases h) plogRings_row_tie rfl ⟨rfl, rfl⟩ (by kernel_rfl) rfl plain (by kernel_rfl)
end Go.Proofs.YtpkhhecmddpnmaaDoor.plogRings
