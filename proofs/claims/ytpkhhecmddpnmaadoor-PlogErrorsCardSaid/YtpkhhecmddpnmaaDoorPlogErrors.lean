/- PlogErrors: places that there are not, entries that are not the next ones or cannot be: each is refused as the page says; no condition on the input (the two tables start as the program text lays them). -/
import Derived.Test.YtpkhhecmddpnmaaDoorPlogApW
import Derived.Test.YtpkhhecmddpnmaaDoorCards
import Derived.Test.YtpkhhecmddpnmaaDoorTie
import Derived.ProofKit
import Derived.OpenShut
import Derived.ShutString
import Derived.ChangeOld
import Derived.Deep.DeepHandedRow
import Derived.Lib.LaidTab
import Derived.Stop.LaidErr
namespace Go.Proofs.YtpkhhecmddpnmaaDoor.plogErrors
open Go.ChangeShapes Go.WideShapes Go.ChangeAt Go.RowKit
open Go.ChangeMaps (open_string shut_string)
set_option linter.unusedVariables false
set_option maxRecDepth 100000
theorem app_gap {D : Dv} {L : Lg} {x : En} (h : L.count < L.size) (hx : x.index ≠ L.first + L.count) : D.app L [x] = (8, D) := by
  unfold Dv.app
  rw [if_neg (by simp; omega), chk_gap hx, if_pos (by decide)]
theorem app_bad {D : Dv} {L : Lg} {x : En} (h : L.count < L.size) (hx : x.index = L.first + L.count) (ho : x.ok = false) : D.app L [x] = (1, D) := by
  unfold Dv.app
  rw [if_neg (by simp; omega), chk_bad hx ho, if_pos (by decide)]
/-- What Append answered. -/
def Ans (x : En) (n : Nat) (c : Int) : Prop := (c = 8 ∧ x.index ≠ (n : Int) + 1) ∨ (c = 1 ∧ x.index = (n : Int) + 1 ∧ x.ok = false) ∨ (c = 0 ∧ x.index = (n : Int) + 1 ∧ x.ok = true)
def AppRel (m : Nat) (E : Nat → Prop) (w : World) (b B bt bd wb n k g : Nat) (x : En) (v : Value) (wx : World) : Prop :=
  ∃ (c : Int) (ys : List En) (D' : Dv), v = .int .i64 c ∧ Ans x n c ∧ ys.length ≤ 8 ∧ Lw m E wx b B bt bd 19 3 8 1 ys (k + 1) D' ∧ WldB wx wb B b 1 (.slice none 0 0) (.slice none 0 0) ∧ EnB wx g x ∧ Below m w wx
theorem AppRel.facts {m : Nat} {E : Nat → Prop} {w : World} {b B bt bd wb n k g : Nat} {x : En} {v : Value} {wx : World} (h : AppRel m E w b B bt bd wb n k g x v wx) : WldB wx wb B b 1 (.slice none 0 0) (.slice none 0 0) ∧ EnB wx g x := by
  obtain ⟨_, _, _, _, _, _, _, h1, h2, _⟩ := h
  exact ⟨h1, h2⟩
def AppRel2 (m : Nat) (E : Nat → Prop) (w : World) (b B bt bd wb k g : Nat) (x : En) (v : Value) (wx : World) : Prop :=
  ∃ (ys : List En) (D' : Dv), ys.length ≤ 8 ∧ Lw m E wx b B bt bd 19 3 8 1 ys (k + 1) D' ∧ WldB wx wb B b 1 (.slice none 0 0) (.slice none 0 0) ∧ EnB wx g x ∧ Below m w wx
set_option maxHeartbeats 4000000 in
theorem walk (a0 : Int) (v1 : Value) (x : En) (w : World) (w0 : (Lit.int .i64 a0).wf = true) (w1 : v1 = enV x ∧ x.Fits) (hT : Tabs w) :
    Calls Tryd.prog 9 #[.int .i64 a0, v1] w fun e w' => e = .returned (.bool true) ∧ Below w.heap.size w w' := by
  obtain ⟨rfl, hfx⟩ := w1
  have hdx := hfx.data
  unfold maxLen at hdx
  have HFX := Lib.hid hfx
  have hix := hfx.index
  have htx := hfx.term
  have HT := Lib.hid (fun (x : World) (hb : Below w.heap.size w x) => hT.below hb)
  obtain ⟨q0, hq0⟩ : ∃ q : Int, q = a0 % 8 := ⟨_, rfl⟩
  obtain ⟨n, hn⟩ : ∃ n : Nat, (n : Int) = q0 := ⟨q0.toNat, by omega⟩
  have h0 : bits .and .i64 a0 7 = (n : Int) := by rw [i64_and7, hn, hq0]
  have hn7 : n ≤ 7 := by omega
  clear hT hq0 hn
  have N0 := EnB.new w x
  have B0 := (Below.refl w.heap.size w).alloc (Nat.le_refl _) (.cells #[.int .i64 x.index, .int .i64 x.term, .string x.data] 69)
  unfold enV
  go_enter Tryd.func9, Tryd.ntmps9
  go_wp2_with fail
  generalize w.alloc (.cells #[.int .i64 x.index, .int .i64 x.term, .string x.data] 69) = wA at N0 B0 ⊢
  refine (phead_any wA (fun y hy => HT.out y (B0.trans (hy.mono B0.size)))).mono ?_
  rintro e w1 ⟨rfl, hb1⟩
  have N1 := N0.below hb1
  have B1 := B0.trans (hb1.mono B0.size)
  obtain ⟨⟨_, _, n2⟩, _⟩ := N1.cells
  clear N0 B0 hb1
  by_cases hd6 : 600 < x.data.size
  · have hz : decide ((600 : Int) < (x.data.size : Int)) = true := by simp; omega
    have hz' : decide (600 < x.data.size) = true := by simpa using hd6
    clear hd6
    go_wp2_with fail
    go_ret
    exact ⟨rfl, B1⟩
  have hz : decide ((600 : Int) < (x.data.size : Int)) = false := by simp; omega
  have hz' : decide (600 < x.data.size) = false := by simpa using hd6
  clear hd6
  go_wp2_with fail
  refine (pnew_any w1 (fun y hy => HT.out y (B1.trans (hy.mono B1.size)))).mono ?_
  rintro e w2 ⟨wb, B, b, bt, bd, D2, E, rfl, W2, _, hw2, hbt, hnw, hb2⟩
  have HTb := Lib.hid (fun (x : World) (hx : Below w1.heap.size w1 x) => HT.out x (B1.trans (hx.mono B1.size)))
  clear n2 hz hz'
  go_wp2_with fail
  go_loopw [6] (fun i wr => ∃ (k : Nat) (Dk : Dv), k ≤ n ∧ i = .int .i64 ((k : Int) + 1) ∧ Lw w1.heap.size E wr b B bt bd 19 3 8 1 (entsT 1 k) (10000 + k) Dk ∧ WldB wr wb B b 1 (.slice none 0 0) (.slice none 0 0) ∧ Below w1.heap.size w1 wr) (fun i _ => n + 1 - (intOf i).toNat)
  case atStart => exact ⟨0, D2, by omega, rfl, W2, hw2, hb2⟩
  case round =>
    obtain ⟨k, Dk, hk, rfl, Wk, Vk, Bk⟩ := hrel
    clear W2 hw2 hb2
    obtain ⟨v0, v1, _⟩ := Vk.cells.1
    by_cases hlt : k < n
    · have hlt' : (k : Int) + 1 ≤ (n : Int) := by omega
      have hk0 : (0 : Int) ≤ (k : Int) := by omega
      have HA := Lib.hid (lw_append1 Wk (by decide) ⟨(k : Int) + 1, 1, ⟨#[]⟩⟩ (by rw [entsT_length]; show (k : Int) + 1 = 1 + (k : Int); omega) rfl (by rw [entsT_length]; omega) Bk.size (fun y hy => HTb.out y (Bk.trans hy)) (by omega))
      rw [← entsT_succ] at HA
      go_wp2_with fail
      refine HA.out.mono ?_
      rintro e w3 ⟨rfl, ⟨D3, W3, _⟩, hb3, hk3⟩
      have V3 := Vk.keep hk3 hbt
      have B3 := Bk.trans hb3
      clear HA hb3 hk3 Wk Vk Bk v0 v1
      go_wp2_with fail
      go_roundw
      case rel => exact ⟨k + 1, D3, by omega, by go_num, W3, V3, B3⟩
      case measure => simp [intOf]; omega
    · obtain rfl : k = n := by omega
      have Nr := N1.below Bk
      have hlen := entsT_length 1 k
      have HL := Lib.hid hlen
      obtain ⟨⟨n0, n1, n2⟩, _⟩ := Nr.cells
      clear hlen h0
      go_upto_region 14 with fail
      go_cut [7] (fun q wx => q = .bool x.ok ∧ wr = wx)
      case first =>
        as_aux_lemma =>
        by_cases h1 : 1 ≤ x.term
        · by_cases h2 : x.term ≤ 1099511627776
          · by_cases h3 : x.data.size ≤ 488
            · have ho : x.ok = true := by simp [En.ok, h1, h2, h3]
              have e3 : decide ((x.data.size : Int) ≤ 488) = true := by simp; omega
              have e3' : decide (x.data.size ≤ 488) = true := by simpa using h3
              go_wp2_with fail
              go_meet
              exact ⟨by rw [ho], rfl⟩
            · have ho : x.ok = false := by simp [En.ok, h3]
              have e3 : decide ((x.data.size : Int) ≤ 488) = false := by simp; omega
              have e3' : decide (x.data.size ≤ 488) = false := by simpa using h3
              go_wp2_with fail
              go_meet
              exact ⟨by rw [ho], rfl⟩
          · have ho : x.ok = false := by simp [En.ok, h2]
            go_wp2_with fail
            go_meet
            exact ⟨by rw [ho], rfl⟩
        · have ho : x.ok = false := by simp [En.ok, h1]
          go_wp2_with fail
          go_meet
          exact ⟨by rw [ho], rfl⟩
      case rest =>
        as_aux_lemma =>
        obtain ⟨rfl, rfl⟩ := hcut
        have HAP : Hid (∀ W, Below wr.heap.size wr W → EnB W wr.heap.size x → wr.heap.size < W.heap.size → Calls Tryd.prog 42 #[.pointer (some ⟨b, 0, none⟩), .slice (some ⟨wr.heap.size, 0, none⟩) 1 1] W fun e w' => ∃ v, e = .returned v ∧ AppRel w1.heap.size E w1 b B bt bd wb k (10000 + k) w.heap.size x v w') := by
          intro W hb hN hs
          have hv : EnS (Made E b bt bd wr W) W (.slice (some ⟨wr.heap.size, 0, none⟩) 1 1) [x] := by
            refine ⟨_, 1, rfl, by simp, .inr ⟨wr.heap.size, rfl, .inr ⟨Nat.le_refl _, hs⟩, hs, fun j y hy => ?_⟩⟩
            rcases j with _ | j
            · obtain rfl : x = y := by simpa using hy
              exact hN.cells.1
            · simp at hy
          have hl1 : w.heap.size < w1.heap.size := N1.lt
          have fin : ∀ (c : Int) (ys : List En) (D' : Dv) (w' : World), Ans x k c → ys.length ≤ 8 → Lw w1.heap.size (fun j => E j ∨ (wr.heap.size ≤ j ∧ j < W.heap.size)) w' b B bt bd 19 3 8 1 ys (10000 + k + 1) D' → Below w1.heap.size W w' → Kept (Made E b bt bd wr W) W w' → AppRel w1.heap.size E w1 b B bt bd wb k (10000 + k) w.heap.size x (.int .i64 c) w' := by
            intro c ys D' w' h1 h2 h3 h4 h5
            obtain ⟨⟨o1, o2, o3⟩, _⟩ := Wk.own
            refine ⟨c, ys, D', rfl, h1, h2, h3.less (fun j hj => .inl hj) o1 o2 o3, (Vk.below hb).keep h5 (Or.inl hbt), ?_, Bk.trans ((hb.mono Bk.size).trans h4)⟩
            exact (h4.block _ hl1).trans ((hb.block _ Nr.lt).trans Nr)
          have hix1 : ∀ j y, [x][j]? = some y → j = 0 ∧ x = y := fun j y hy => by
            rcases j with _ | j
            · exact ⟨rfl, by simpa using hy⟩
            · simp at hy
          by_cases hx : x.index = (k : Int) + 1
          · cases ho : x.ok with
            | false =>
              refine (lw_appX Wk (by decide) W hb _ [x] hv (fun y hy => by rw [List.mem_singleton.1 hy]; exact HFX.out) 1 (by decide) (app_bad (by show ((entsT 1 k).length : Int) < 8; rw [HL.out]; omega) (by show x.index = 1 + ((entsT 1 k).length : Int); rw [HL.out, hx]; omega) ho) Bk.size (fun y hy => HTb.out y (Bk.trans hy)) (by omega)).mono ?_
              rintro e w' ⟨rfl, hL, hbl, hk'⟩
              exact ⟨_, rfl, fin 1 _ _ w' (.inr (.inl ⟨rfl, hx, ho⟩)) (by rw [HL.out]; omega) hL hbl hk'⟩
            | true =>
              refine (lw_appW Wk (by decide) W hb _ [x] hv (fun j y hy => by obtain ⟨rfl, rfl⟩ := hix1 j y hy; exact ⟨by rw [HL.out, hx]; omega, ho⟩) (by rw [HL.out]; simp; omega) Bk.size (fun y hy => HTb.out y (Bk.trans hy)) (by omega)).mono ?_
              rintro e w' ⟨rfl, ⟨D', hL, _⟩, hbl, hk'⟩
              exact ⟨_, rfl, fin 0 _ _ w' (.inr (.inr ⟨rfl, hx, ho⟩)) (by rw [List.length_append, HL.out]; simp; omega) hL hbl hk'⟩
          · refine (lw_appX Wk (by decide) W hb _ [x] hv (fun y hy => by rw [List.mem_singleton.1 hy]; exact HFX.out) 8 (by decide) (app_gap (by show ((entsT 1 k).length : Int) < 8; rw [HL.out]; omega) (by show x.index ≠ 1 + ((entsT 1 k).length : Int); rw [HL.out]; omega)) Bk.size (fun y hy => HTb.out y (Bk.trans hy)) (by omega)).mono ?_
            rintro e w' ⟨rfl, hL, hbl, hk'⟩
            exact ⟨_, rfl, fin 8 _ _ w' (.inl ⟨rfl, hx⟩) (by rw [HL.out]; omega) hL hbl hk'⟩
        have BA : Below wr.heap.size wr (wr.alloc (.cells #[.int .i64 x.index, .int .i64 x.term, .string x.data] 69)).drew := ((Below.refl _ wr).alloc (Nat.le_refl _) _).drew
        have NA : EnB (wr.alloc (.cells #[.int .i64 x.index, .int .i64 x.term, .string x.data] 69)).drew wr.heap.size x := EnB.new wr x
        have SA : wr.heap.size < (wr.alloc (.cells #[.int .i64 x.index, .int .i64 x.term, .string x.data] 69)).drew.heap.size := by show _ < (wr.alloc _).heap.size; simp
        have y1 : ¬ wb = wr.heap.size := Nat.ne_of_lt Vk.lt
        have y2 : ¬ wr.heap.size = wb := Nat.ne_of_gt Vk.lt
        have y3 : ¬ w.heap.size = wr.heap.size := Nat.ne_of_lt Nr.lt
        have y4 : ¬ wr.heap.size = w.heap.size := Nat.ne_of_gt Nr.lt
        go_upto_region 15 with fail
        go_cut [8] (AppRel w1.heap.size E w1 b B bt bd wb k (10000 + k) w.heap.size x)
        case first =>
          as_aux_lemma =>
          go_region_held3 (fun w' => w'.cell? ⟨wb, 1, none⟩ = some (.pointer (some ⟨b, 0, none⟩)) ∧ w'.cell? ⟨w.heap.size, 0, none⟩ = some (.int .i64 x.index) ∧ w'.cell? ⟨w.heap.size, 1, none⟩ = some (.int .i64 x.term) ∧ w'.cell? ⟨w.heap.size, 2, none⟩ = some (.string x.data)) (first | (with_reducible assumption) | (refine ⟨?_, ?_, ?_, ?_⟩ <;> with_reducible assumption) | go_keep)
            ((go_at_call 42; refine (HAP.out _ ?hBa ?hBb ?hBc).mono ?_; (case hBa => with_reducible exact BA); (case hBb => with_reducible exact NA); (case hBc => with_reducible exact SA); rintro e w3 ⟨v, rfl, HA⟩; obtain ⟨V3, N3⟩ := HA.facts; obtain ⟨_, z1, _⟩ := V3.cells.1; obtain ⟨⟨z2, z3, z4⟩, _⟩ := N3.cells))
          go_wp2_with fail
          go_meet
          exact HA
        case rest =>
          as_aux_lemma =>
          obtain ⟨c, ys, D3, rfl, HANS, hyl, X3, V3, N3, B3⟩ := hcut
          rename_i w3
          have hl1 := Lib.hid (show w.heap.size < w1.heap.size from N1.lt)
          have hD3 := Lib.hid X3.neat.len
          clear HAP BA NA SA y1 y2 y3 y4 Nr n0 n1 n2 Wk Vk Bk v0 v1
          have v0 := V3.cells.1.1
          have v1 := V3.cells.1.2.1
          obtain ⟨⟨n0, n1, n2⟩, _⟩ := N3.cells
          go_upto_region 16 with fail
          go_cut [8, 88] (fun v q wx => q = .bool false ∧ AppRel2 w1.heap.size E w1 b B bt bd wb (10000 + k) w.heap.size x v wx)
          case first =>
            rcases HANS with ⟨rfl, hx⟩ | ⟨rfl, hx, ho⟩ | ⟨rfl, hx, ho⟩
            all_goals
              as_aux_lemma =>
              first
                | (have hne1 : (x.index != (k : Int) + 1) = true := by simpa using hx
                   have hne2 : (x.index == (k : Int) + 1) = false := by simpa using hx
                   clear hx
                   go_wp2_with fail)
                | (have hne1 : (x.index != (k : Int) + 1) = false := by simp [hx]
                   have hne2 : (x.index == (k : Int) + 1) = true := by simp [hx]
                   clear hx
                   go_wp2_with fail)
              go_meet
              exact ⟨rfl, ys, D3, hyl, X3, V3, N3, B3⟩
          case rest =>
              as_aux_lemma =>
              clear X3 V3 N3 B3 v0 v1 n0 n1 n2 hyl hD3 HANS
              obtain ⟨rfl, ys, D4, hyl, X3, V3, N3, B3⟩ := hcut
              have hD3 := Lib.hid X3.neat.len
              have v0 := V3.cells.1.1
              have v1 := V3.cells.1.2.1
              go_wp2_with fail
              refine (popen_bad (-1) 1 1 X3.dev (by rw [hD3.out]; decide) (.inr (by rw [hD3.out]; decide))).mono ?_
              rintro e w4 ⟨rfl, rfl⟩
              go_wp2_with fail
              refine (popen_bad (0) 0 1 X3.dev (by rw [hD3.out]; decide) (.inr (by rw [hD3.out]; decide))).mono ?_
              rintro e w4 ⟨rfl, rfl⟩
              go_wp2_with fail
              as_aux_lemma =>
              refine (popen_bad (0) 1 0 X3.dev (by rw [hD3.out]; decide) (.inl (by decide))).mono ?_
              rintro e w4 ⟨rfl, rfl⟩
              go_wp2_with fail
              refine (popen_bad (4) 8 1 X3.dev (by rw [hD3.out]; decide) (.inr (by rw [hD3.out]; decide))).mono ?_
              rintro e w4 ⟨rfl, rfl⟩
              go_wp2_with fail
              as_aux_lemma =>
                refine (lw_last X3 (ys.length : Int) (by omega)).mono ?_
                rintro e w4 ⟨rfl, hb4⟩
                have X4 := X3.below hb4
                have V4 := V3.below hb4
                have N4 := N3.below hb4
                have B4 := B3.trans (hb4.mono B3.size)
                clear X3 V3 N3 B3 hb4 v0 v1
                go_wp2_with fail
                refine (pget_nil 1 w4).mono ?_
                rintro e w5 ⟨rfl, hb5⟩
                have X5 := (X4.below hb5).below ((Below.refl _ w5).alloc (Nat.le_refl _) (.cells #[.int .i64 0, .int .i64 0, .string ⟨#[]⟩] 69))
                have V5 := (V4.below hb5).below ((Below.refl _ w5).alloc (Nat.le_refl _) (.cells #[.int .i64 0, .int .i64 0, .string ⟨#[]⟩] 69))
                have N5 := (N4.below hb5).below ((Below.refl _ w5).alloc (Nat.le_refl _) (.cells #[.int .i64 0, .int .i64 0, .string ⟨#[]⟩] 69))
                have B5 := (B4.trans (hb5.mono B4.size)).alloc (B4.trans (hb5.mono B4.size)).size (.cells #[.int .i64 0, .int .i64 0, .string ⟨#[]⟩] 69)
                clear X4 V4 N4 B4 hb5
                unfold lgetV enV en0
                go_wp2_with fail
                refine (pscrub_nil _).mono ?_
                rintro e w6 ⟨rfl, rfl⟩
                generalize w5.alloc (.cells #[.int .i64 0, .int .i64 0, .string ⟨#[]⟩] 69) = w6 at X5 V5 N5 B5 ⊢
                have X6 := X5
                have V6 := V5
                have N6 := N5
                have B6 := B5
                clear X5 V5 N5 B5
                as_aux_lemma =>
                  have hyl' : (ys.length : Int) ≤ 8 := by omega
                  have hy0 : (0 : Int) ≤ (ys.length : Int) := by omega
                  obtain ⟨_, z1, _⟩ := V6.cells.1
                  go_wp2_with fail
                  refine (lw_cutX X6 (by decide) 0 ⟨by decide, by decide⟩ (.inl (by decide)) B6.size (fun y hy => HTb.out y (B6.trans hy))).mono ?_
                  rintro e w7 ⟨rfl, X7, hb7, hk7⟩
                  have V7 := V6.keep hk7 hbt
                  have N7 : EnB w7 w.heap.size x := (hb7.block _ hl1.out).trans N6
                  have B7 := B6.trans hb7
                  clear X6 V6 N6 B6 hb7 hk7 z1
                  obtain ⟨_, z1, _⟩ := V7.cells.1
                  go_wp2_with fail
                  refine (lw_cutX X7 (by decide) ((ys.length : Int) + 2) ⟨by omega, by omega⟩ (.inr (by omega)) B7.size (fun y hy => HTb.out y (B7.trans hy))).mono ?_
                  rintro e w8 ⟨rfl, X8, hb8, hk8⟩
                  have V8 := V7.keep hk8 hbt
                  have N8 : EnB w8 w.heap.size x := (hb8.block _ hl1.out).trans N7
                  have B8 := B7.trans hb8
                  clear X7 V7 N7 B7 hb8 hk8 z1
                  obtain ⟨_, z1, _⟩ := V8.cells.1
                  go_wp2_with fail
                  as_aux_lemma =>
                    refine (lw_cut X8 (by decide) (f := (ys.length : Int) + 1) (by omega) (by omega) B8.size (fun y hy => HTb.out y (B8.trans hy))).mono ?_
                    rintro e w9 ⟨rfl, X9, hb9, hk9⟩
                    obtain ⟨D9, X9, _⟩ := X9
                    rw [show ((ys.length : Int) + 1 - 1).toNat = ys.length by omega, List.take_length] at X9
                    have V9 := V8.keep hk9 hbt
                    have N9 : EnB w9 w.heap.size x := (hb9.block _ hl1.out).trans N8
                    have B9 := B8.trans hb9
                    clear X8 V8 N8 B8 hb9 hk9 z1
                    obtain ⟨_, z1, _⟩ := V9.cells.1
                    go_wp2_with fail
                    as_aux_lemma =>
                      refine (lw_dropX X9 (by decide) ((ys.length : Int) + 2) ⟨by omega, by omega⟩ (.inr (by omega)) B9.size).mono ?_
                      rintro e w10 ⟨rfl, X10, hb10, hk10⟩
                      have V10 := V9.keep hk10 hbt
                      have N10 : EnB w10 w.heap.size x := (hb10.block _ hl1.out).trans N9
                      have B10 := B9.trans hb10
                      clear X9 V9 N9 B9 hb10 hk10 z1
                      obtain ⟨_, z1, _⟩ := V10.cells.1
                      go_wp2_with fail
                      refine (lw_dropX X10 (by decide) 0 ⟨by decide, by decide⟩ (.inl (by decide)) B10.size).mono ?_
                      rintro e w11 ⟨rfl, X11, hb11, hk11⟩
                      have V11 := V10.keep hk11 hbt
                      have N11 : EnB w11 w.heap.size x := (hb11.block _ hl1.out).trans N10
                      have B11 := B10.trans hb11
                      clear X10 V10 N10 B10 hb11 hk11 z1
                      obtain ⟨_, z1, _⟩ := V11.cells.1
                      go_wp2_with fail
                      as_aux_lemma =>
                        refine (pmend_bad ⟨(ys.length : Int) + 1, 1, ⟨#[]⟩⟩ X11.log (by show (0 : Int) ≤ 1; decide) (by show (ys.length : Int) + 1 ≤ _; omega) (by simp [Lg.has])).mono ?_
                        rintro e w12 ⟨rfl, hb12⟩
                        have N12 := N11.below hb12
                        have B12 := B11.trans (hb12.mono B11.size)
                        clear X11 V11 N11 B11 hb12 z1
                        obtain ⟨⟨n0, n1, n2⟩, _⟩ := N12.cells
                        go_wp2_with fail
                        refine (pfirst_nil w12).mono ?_
                        rintro e w13 ⟨rfl, rfl⟩
                        go_wp2_with fail
                        refine (plast_nil w12).mono ?_
                        rintro e w13 ⟨rfl, rfl⟩
                        go_wp2_with fail
                        refine (proom_nil w12).mono ?_
                        rintro e w13 ⟨rfl, rfl⟩
                        go_wp2_with fail
                        refine (pterm_nil 1 w12).mono ?_
                        rintro e w13 ⟨rfl, rfl⟩
                        go_wp2_with fail
                        refine (phurt_nil w12).mono ?_
                        rintro e w13 ⟨rfl, rfl⟩
                        go_wp2_with fail
                        refine (pappend_nil (.slice none 0 0) w12).mono ?_
                        rintro e w13 ⟨rfl, rfl⟩
                        go_wp2_with fail
                        as_aux_lemma =>
                          refine (pcut_nil 1 w12).mono ?_
                          rintro e w13 ⟨rfl, hb13⟩
                          have N13 := N12.below hb13
                          have B13 := B12.trans (hb13.mono B12.size)
                          clear N12 B12 hb13 n0 n1 n2
                          obtain ⟨⟨n0, n1, n2⟩, _⟩ := N13.cells
                          go_wp2_with fail
                          refine (pdrop_nil 1 w13).mono ?_
                          rintro e w14 ⟨rfl, hb14⟩
                          have N14 := N13.below hb14
                          have B14 := B13.trans (hb14.mono B13.size)
                          clear N13 B13 hb14 n0 n1 n2
                          obtain ⟨⟨n0, n1, n2⟩, _⟩ := N14.cells
                          go_wp2_with fail
                          refine (pmend_nil x w14).mono ?_
                          rintro e w15 ⟨rfl, hb15⟩
                          go_wp2_with fail
                          go_ret
                          exact ⟨rfl, B1.trans ((B14.trans (hb15.mono B14.size)).mono B1.size)⟩

theorem own : ownKnob Tryd.prog.godebug = none := by kernel_rfl
theorem laidOut : laidOutB Tryd.prog = true := by kernel_rfl
theorem gHi : Tryd.prog.globalNamed "orchard/sum.highTable" = some 0 := by kernel_rfl
theorem gLo : Tryd.prog.globalNamed "orchard/sum.lowTable" = some 1 := by kernel_rfl
theorem gHiType : (Tryd.prog.globals[0]?).map (·.type) = some 165 := by kernel_rfl
theorem gLoType : (Tryd.prog.globals[1]?).map (·.type) = some 165 := by kernel_rfl
theorem cellsTab : Tryd.prog.cellsOf 165 = 16 := by kernel_rfl
theorem cellsSum : Tryd.prog.cellsOf 158 = 1 := by kernel_rfl

theorem table_lo {W : World} (h : laidMetH Tryd.prog Rows.plogErrorsRow.laid W) : Lib.TabIs Tryd.prog W "orchard/sum.lowTable" .u32 LO :=
  Lib.tabIs_of_head (rest := [("orchard/sum.highTable", Rows.laid_orchard_sum_highTable)]) gLo gLoType Tryd.underlying165 Tryd.underlying158 cellsSum cellsTab h
theorem table_hi {W : World} (h : laidMetH Tryd.prog Rows.plogErrorsRow.laid W) : Lib.TabIs Tryd.prog W "orchard/sum.highTable" .u32 HI :=
  Lib.tabIs_of_head (rest := []) gHi gHiType Tryd.underlying165 Tryd.underlying158 cellsSum cellsTab (laidMet.tail (show laidMet Tryd.prog [("orchard/sum.lowTable", Rows.laid_orchard_sum_lowTable), ("orchard/sum.highTable", Rows.laid_orchard_sum_highTable)] W from h))
theorem tabs_of {W : World} (h : laidMetH Tryd.prog Rows.plogErrorsRow.laid W) : Tabs W := by
  have c0 := fun (j : Nat) (hj : j < 16) => (table_hi h).cell gHi j hj
  have c1 := fun (j : Nat) (hj : j < 16) => (table_lo h).cell gLo j hj
  refine ⟨⟨World.block_lt_of_cell? W _ (c0 0 (by decide)), World.block_lt_of_cell? W _ (c1 0 (by decide))⟩, fun j hj => ?_, fun j hj => ?_⟩
  · rw [c0 j hj, hi_cast j]
  · rw [c1 j hj, lo_cast j]

theorem contract (H : Type) (enc : TypeId × Value → H) (W : World) (base : Nat) (args : Array Value) (ds gs : List (DataW H)) (before : List MemPlace)
    (hval : ∀ (j : Nat) t v, Tryd.f9.params[j]? = some t → args[j]? = some v → Value.okWide Tryd.prog W .any base t v)
    (hW : DataW.Whole enc Tryd.prog Tryd.f9.params.toList Rows.plogErrorsSpec.vars false W args.toList ds gs before) (hL : laidMetH Tryd.prog Rows.plogErrorsRow.laid W) :
    Calls Tryd.prog 9 args W fun e W' => ∃ v, e = .returned v ∧ Rows.plogErrorsSpec.post enc Tryd.prog Tryd.f9 false true false false W args v W' := by
  have hT := tabs_of hL
  have hW' := hW
  obtain ⟨p, q, hA0, hV, rfl, hfz, hnd⟩ := hW
  have hA : DataW.TrodAll enc Tryd.prog W 0 (fun _ => true) true Tryd.f9.params.toList args.toList ds p := hA0
  rw [Tryd.params9] at hA hval
  obtain ⟨v0, vs0, d0, ds0, p0, q0, hargs, rfl, rfl, h0, r0⟩ := trodAll_cons hA
  obtain ⟨v1, vs1, d1, ds1, p1, q1, rfl, rfl, rfl, h1, r1⟩ := trodAll_cons r0
  obtain ⟨rfl, rfl, rfl⟩ := trodAll_nil r1
  obtain rfl : args = #[v0, v1] := by cases args; simp_all
  obtain ⟨rfl, rfl⟩ := trodVars_none hV
  obtain ⟨a0, rfl, rfl, rfl, w0⟩ := open_int Tryd.underlying3 (hval 0 3 v0 rfl rfl) h0
  have k1 := h1
  have lt1 : ∀ x ∈ p1, x.block < W.heap.size := by obtain ⟨m, hm⟩ := k1; exact DataW.trod_lt m _ _ _ hm
  obtain ⟨z1, w1⟩ := en_of (hval 1 69 v1 rfl rfl) h1
  clear hA0
  refine (walk a0 v1 z1 W w0 w1 hT).mono fun e W' ⟨he, bel⟩ => ?_
  subst he
  exact ⟨_, rfl, _, _, _, [], _, [], hW', trodAll_mk1 (shut_bool Tryd.underlying4 _), (trodAll_cons_mk (shut_int Tryd.underlying3 w0) (trodAll_cons_mk (Below.trod laidOut (by kernel_rfl) (of_decide_eq_true (by kernel_rfl)) k1 bel lt1) trodAll_mk0)), rfl, bel.frame _, fun h => by cases h⟩

def setTab (l : List Int) : Obj → Obj
  | .cells _ t frozen => .cells (l.map (Value.int .u32)).toArray t frozen
  | o => o
noncomputable def laidWorld (os : Os) : World :=
  { World.holding Tryd.prog os ⟨#[], #[], []⟩ with heap := ((World.holding Tryd.prog os ⟨#[], #[], []⟩).heap.modify 1 (setTab LO)).modify 0 (setTab HI) }
theorem laid_met (os : Os) : laidMet Tryd.prog Rows.plogErrorsRow.laid ((laidWorld os).forCall (fun _ _ => 0) ⟨#[], #[.int .i64 0, .agg #[.int .i64 0, .int .i64 0, .string ByteArray.empty]], []⟩).memory :=
  laidMet_of_run' 8 (by kernel_rfl) (by kernel_rfl)
theorem reads (os : Os) {H : Type} (enc : TypeId × Value → H) : ∃ places, DataW.whole enc Tryd.prog ((laidWorld os).forCall (fun _ _ => 0) ⟨#[], #[.int .i64 0, .agg #[.int .i64 0, .int .i64 0, .string ByteArray.empty]], []⟩).memory Tryd.f9.params.toList Rows.plogErrorsSpec.vars false #[Value.int .i64 0, Value.agg #[.int .i64 0, .int .i64 0, .string ByteArray.empty]].toList 8 = some ([.lit (.int .i64 0), .agg [.lit (.int .i64 0), .lit (.int .i64 0), .lit (.string [])]], [], places) :=
  ⟨[], by kernel_rfl⟩

set_option maxRecDepth 100000 in
theorem lifted (os : Os) (started : os.Started) (H : Type) (enc : TypeId × Value → H) (F : Stop.Interp) :
    ReturnsInHanded {} Tryd.checked os 9 .any ((OpenSpec.ofChange Rows.plogErrorsSpec).preRow enc Tryd.prog Tryd.f9 Rows.plogErrorsRow.domain false Rows.plogErrorsRow.laid) (((OpenSpec.ofChange Rows.plogErrorsSpec).at F).post enc Tryd.prog Tryd.f9 false true false false) := by
  obtain ⟨places, hx⟩ := reads os enc
  refine returnsInHanded_of_row (C := Tryd.checked) (s := OpenSpec.ofChange Rows.plogErrorsSpec) own started (by kernel_rfl) Tryd.func9
    (witness_row_at (enc := enc) (C := Tryd.checked) false (laidWorld os) #[.int .i64 0, .agg #[.int .i64 0, .int .i64 0, .string ByteArray.empty]] rfl (by kernel_rfl) (by kernel_rfl) (by kernel_rfl)
      (OpenSpec.preRow_of_cond 8 hx (by kernel_rfl) (fun k hk => by cases hk) (by kernel_rfl) (laid_met os))) ?_
  intro W base args ds gs before hval hW _ _ _ hL _ _
  exact contract H enc W base args ds gs before hval hW hL

theorem said : Rows.PlogErrorsSaid :=
  OpenClaim.holds_of_cond 9 Tryd.f9 rfl rfl rfl rfl rfl rfl rfl ⟨rfl, rfl, rfl, rfl, rfl⟩ rfl rfl rfl rfl rfl (by kernel_rfl) Tryd.func9 (by kernel_rfl)
    (of_decide_eq_true (by kernel_rfl)) (by unfold Func.isWrapper; first | (rw [if_pos (by decide +kernel)]; kernel_rfl) | (rw [if_neg (by decide +kernel)]; exact ⟨rfl, rfl⟩))
    (fun os started H enc _ F => by rw [OpenClaim.pre_eq_preRow]; exact lifted os started H enc F)

theorem plain (f : FuncId) (fn : Func) (hf : Tryd.pinned.checked.prog.funcNamed "orchard/orchardlaw06.PlogErrors" = some f) (hfn : Tryd.pinned.checked.prog.funcs[f]? = some fn) :
    false = Tryd.pinned.checked.prog.looks [] ∧ ∀ (j : Nat) t, fn.params[j]? = some t → Tryd.pinned.checked.prog.wantsStandIn t = false := by
  obtain rfl : f = 9 := Option.some.inj ((show Tryd.prog.funcNamed "orchard/orchardlaw06.PlogErrors" = some 9 by kernel_rfl).symm.trans hf) |>.symm
  obtain rfl : fn = Tryd.f9 := (Option.some.inj (Tryd.func9.symm.trans hfn)).symm
  refine ⟨by kernel_rfl, fun j t ht => ?_⟩
  rw [Tryd.params9] at ht
  have hm := Array.mem_of_getElem? ht
  simp at hm
  rcases hm with rfl | rfl
  · exact (show Tryd.prog.wantsStandIn 3 = false by kernel_rfl)
  · exact (show Tryd.prog.wantsStandIn 69 = false by kernel_rfl)

theorem card : Rows.PlogErrorsCardSaid :=
  Claim7.holds_tied_plain_at .later [] _ _ _ _ said (fun _ h => by cases h) (by kernel_rfl) (fun _ h => by cases h) plogErrors_row_tie rfl ⟨rfl, rfl⟩ (by kernel_rfl) rfl plain (by kernel_rfl)
end Go.Proofs.YtpkhhecmddpnmaaDoor.plogErrors
