/- PlogMends: whenever the power fails while an entry is mended, it is there, or damaged as it was, never another one, never gone; no condition on the input (the two tables start as the program text lays them). -/
import Derived.Test.YtpkhhecmddpnmaaDoorPlogMds
import Derived.Test.YtpkhhecmddpnmaaDoorCards
import Derived.Test.YtpkhhecmddpnmaaDoorTie
import Derived.ProofKit
import Derived.OpenShut
import Derived.ShutString
import Derived.ChangeOld
import Derived.Deep.DeepHandedRow
import Derived.Lib.LaidTab
import Derived.Stop.LaidErr
namespace Go.Proofs.YtpkhhecmddpnmaaDoor.plogMends
open Go.ChangeShapes Go.WideShapes Go.ChangeAt Go.RowKit
open Go.ChangeMaps (open_string shut_string)
set_option linter.unusedVariables false
set_option maxRecDepth 100000
def bM (k : Nat) : UInt8 := UInt8.ofNat (97 + (k + 1))
/-- The entry with index k + 1. -/
def entM (k : Nat) : En := ⟨(k : Int) + 1, 2, ⟨#[bM k]⟩⟩
def entsM (n : Nat) : List En := (List.range n).map entM
theorem entsM_length (n : Nat) : (entsM n).length = n := by simp [entsM]
theorem entsM_succ (n : Nat) : entsM (n + 1) = entsM n ++ [entM n] := by unfold entsM; rw [List.range_succ, List.map_append]; rfl
theorem entsM_at {n k : Nat} (h : k < n) : (entsM n)[k]? = some (entM k) := by unfold entsM; rw [List.getElem?_map, List.getElem?_range h]; rfl
theorem entM_ok (k : Nat) : (entM k).ok = true := rfl
theorem bM_cells (k : Nat) (hk : k ≤ 5) : cellsOf [bM k] = [.int .u8 (97 + ((k : Int) + 1))] := by
  unfold cellsOf bM
  simp
  omega
theorem u8_of (z : Int) (h : 0 ≤ z ∧ z ≤ 255) : IntKind.u8.wrap z = z := by rw [IntKind.wrap_u8]; omega
theorem row_enM {w : World} {base n : Nat} {v : Value} {xs : List En} (h : w.ownsRow base 69 3 v n (enCells xs)) (hx : xs.length = n) (h0 : n ≠ 0) (hl : n ≤ 10000) :
    ∃ g cap, v = .slice (some ⟨g, 0, none⟩) n cap ∧ n ≤ cap ∧ base ≤ g ∧ g < w.heap.size ∧ ∀ j x, xs[j]? = some x → w.cell? ⟨g, j * 3, none⟩ = some (.int .i64 x.index) ∧ w.cell? ⟨g, j * 3 + 1, none⟩ = some (.int .i64 x.term) ∧ w.cell? ⟨g, j * 3 + 2, none⟩ = some (.string x.data) := by
  subst hx
  obtain ⟨g, cap, h1, h2, h3, h4, h5⟩ := row_en h h0 hl
  exact ⟨g, cap, h1, h2, h3, h4, fun j x hx => by have := h5 j x hx; rwa [Nat.zero_add] at this⟩
/-- The slice 'list'. -/
def ListR (w : World) (g n : Nat) : Prop := g < w.heap.size ∧ ∀ j x, (entsM n)[j]? = some x → w.cell? ⟨g, j * 3, none⟩ = some (.int .i64 x.index) ∧ w.cell? ⟨g, j * 3 + 1, none⟩ = some (.int .i64 x.term) ∧ w.cell? ⟨g, j * 3 + 2, none⟩ = some (.string x.data)
theorem ListR.keep {w w' : World} {g n : Nat} (h : ListR w g n) (e : w'.heap[g]? = w.heap[g]?) (hs : w.heap.size ≤ w'.heap.size) : ListR w' g n := by
  refine ⟨Nat.lt_of_lt_of_le h.1 hs, fun j x hx => ?_⟩
  rw [cell_kept e, cell_kept e, cell_kept e]
  exact h.2 j x hx
theorem blk2 (c : Int) (i : Nat) : (⟨3, 8, 1, c⟩ : Lg).blk 2 ((i : Int) + 1) = 3 + ((i : Int) + 1) % 8 := by
  unfold Lg.blk
  rw [if_neg (by decide)]
  show (3 : Int) + ((i : Int) + 1) % 8 + 0 = _
  omega
theorem blk3 (c : Int) (i : Nat) : (⟨3, 8, 1, c⟩ : Lg).blk 3 ((i : Int) + 1) = 11 + ((i : Int) + 1) % 8 := by
  unfold Lg.blk
  rw [if_pos rfl]
  show (3 : Int) + ((i : Int) + 1) % 8 + 8 = _
  omega
set_option maxHeartbeats 8000000 in
theorem walk (a0 a1 : Int) (a2 : Bool) (a3 a4 : Int) (w : World) (w0 : (Lit.int .i64 a0).wf = true) (w1 : (Lit.int .i64 a1).wf = true) (w3 : (Lit.int .i64 a3).wf = true) (w4 : (Lit.int .i64 a4).wf = true) (hT : Tabs w) :
    Calls Tryd.prog 11 #[.int .i64 a0, .int .i64 a1, .bool a2, .int .i64 a3, .int .i64 a4] w fun e w' => e = .returned (.bool true) ∧ Below w.heap.size w w' := by
  have HT := Lib.hid (fun (x : World) (hb : Below w.heap.size w x) => hT.below hb)
  obtain ⟨q0, hq0⟩ : ∃ q : Int, q = a0 % 4 := ⟨_, rfl⟩
  have h0 : bits .and .i64 a0 3 = q0 := by rw [i64_and3, hq0]
  have b0 : 0 ≤ q0 ∧ q0 ≤ 3 := by omega
  obtain ⟨n, hn⟩ : ∃ n : Nat, (n : Int) = 1 + q0 := ⟨(1 + q0).toNat, by omega⟩
  have hn1 : 1 ≤ n ∧ n ≤ 4 := by omega
  have h3 : 1 + q0 = (n : Int) := hn.symm
  obtain ⟨q1, hq1⟩ : ∃ q : Int, q = a1 % 256 := ⟨_, rfl⟩
  have h1 : bits .and .i64 a1 255 = q1 := by rw [i64_and255, hq1]
  have b1 : 0 ≤ q1 ∧ q1 ≤ 255 := by omega
  obtain ⟨p, hp⟩ : ∃ p : Nat, (p : Int) = q1 % (n : Int) := ⟨(q1 % (n : Int)).toNat, by have := Int.emod_nonneg q1 (show (n : Int) ≠ 0 by omega); omega⟩
  have hpn : p < n := by have := Int.emod_lt_of_pos q1 (show (0 : Int) < (n : Int) by omega); omega
  have h4 : q1 % (n : Int) = (p : Int) := hp.symm
  have h4' : q1.tmod (n : Int) = (p : Int) := by rw [Int.tmod_eq_emod_of_nonneg b1.1]; exact h4
  obtain ⟨t, ht⟩ : ∃ t : Int, t = a3 % 8 := ⟨_, rfl⟩
  have h5 : bits .and .i64 a3 7 = t := by rw [i64_and7, ht]
  have ht7 : 0 ≤ t ∧ t ≤ 7 := by omega
  clear hT hq0 hn hq1 hp ht
  go_enter Tryd.func11, Tryd.ntmps11
  go_wp2_with fail
  refine (phead_any w HT.out).mono ?_
  rintro e w1 ⟨rfl, hb1⟩
  go_wp2_with fail
  refine (pnew_any w1 (fun x hx => HT.out x (hb1.trans (hx.mono hb1.size)))).mono ?_
  rintro e w2 hN
  obtain ⟨wb, E, B, b, bt, bd, D2, rfl, W2, hb2⟩ := wl_new hN
  have HTb := Lib.hid (fun (x : World) (hx : Below w1.heap.size w1 x) => HT.out x (hb1.trans (hx.mono hb1.size)))
  obtain ⟨i0, hi0, hz0, hz1, hz2⟩ := info_parts info_en
  have R2 : (w2.alloc (.cells #[] 69)).ownsRow w2.heap.size 69 3 (.slice (some ⟨w2.heap.size, 0, none⟩) 0 0) 0 [] := World.ownsRow_made w2 #[] 0 (Nat.le_refl _) (Nat.zero_le _) rfl
  have B2 := (Below.refl w2.heap.size w2).alloc (Nat.le_refl _) (.cells #[] 69)
  clear h0 h3 hN
  go_wp2_with fail
  go_loopw [12, 13] (fun v i wr => ∃ k : Nat, k ≤ n ∧ i = .int .i64 ((k : Int) + 1) ∧ wr.ownsRow w2.heap.size 69 3 v k (enCells (entsM k)) ∧ Below w2.heap.size w2 wr) (fun _ i _ => n + 1 - (intOf i).toNat)
  case atStart => exact ⟨0, by omega, rfl, R2, B2⟩
  case round =>
    obtain ⟨k, hk, rfl, Rk, Bk⟩ := hrel
    clear R2 B2
    by_cases hlt : k < n
    · have hlt' : (k : Int) + 1 ≤ (n : Int) := by omega
      have hk0 : (0 : Int) ≤ (k : Int) := by omega
      have hk3 : (k : Int) ≤ 3 := by omega
      have e1 : IntKind.u8.wrap ((k : Int) + 1) = (k : Int) + 1 := u8_of _ (by omega)
      have e2 : IntKind.u8.wrap (97 + ((k : Int) + 1)) = 97 + ((k : Int) + 1) := u8_of _ (by omega)
      have hs0 := src_new wr [bM k] 1
      rw [bM_cells k (by omega)] at hs0
      have hrun : (convert 43 9 (.slice (some ⟨wr.heap.size, 0, none⟩) 1 1)).run Tryd.prog (wr.alloc (.cells #[.int .u8 (97 + ((k : Int) + 1))] 5)) = .ok (.string ⟨#[bM k]⟩) (wr.alloc (.cells #[.int .u8 (97 + ((k : Int) + 1))] 5)) := run_str hs0
      have hown := (Rk.alloc (.cells #[.int .u8 (97 + ((k : Int) + 1))] 5)).alloc (.cells #[.int .i64 ((k : Int) + 1), .int .i64 2, .string ⟨#[bM k]⟩] 69)
      have hnA := heap_alloc_new (wr.alloc (.cells #[.int .u8 (97 + ((k : Int) + 1))] 5)) (.cells #[.int .i64 ((k : Int) + 1), .int .i64 2, .string ⟨#[bM k]⟩] 69)
      rw [World.size_alloc] at hnA
      have hnw : ∀ (j : Nat) (u : Value), (enCells [entM k])[j]? = some u → ((wr.alloc (.cells #[.int .u8 (97 + ((k : Int) + 1))] 5)).alloc (.cells #[.int .i64 ((k : Int) + 1), .int .i64 2, .string ⟨#[bM k]⟩] 69)).cell? (Addr.add ⟨wr.heap.size + 1, 0, none⟩ j) = some u := World.news_of_block (cs := #[.int .i64 ((k : Int) + 1), .int .i64 2, .string (⟨#[bM k]⟩ : ByteArray)]) (t := 69) (fr := (0, 0)) hnA
      have hbA := (Bk.alloc Bk.size (.cells #[.int .u8 (97 + ((k : Int) + 1))] 5)).alloc (Bk.alloc Bk.size (.cells #[.int .u8 (97 + ((k : Int) + 1))] 5)).size (.cells #[.int .i64 ((k : Int) + 1), .int .i64 2, .string ⟨#[bM k]⟩] 69)
      have HNW := Lib.hid hnw
      clear hnw hs0 hnA
      go_wp2_with (at_builtin; refine wpList_append_lies _ rfl _ _ _ rfl w2.heap.size 69 i0 _ 3 32 und_ens hi0 hz0 hz1 hz2 rfl (by decide) u12 k (enCells (entsM k)) rfl hown ⟨wr.heap.size + 1, 0, none⟩ 1 1 (enCells [entM k]) rfl rfl HNW.out (enCells_one _) (by decide) (by unfold maxLen; omega) (by omega) hbA.size (wr.heap.size + 1 + 1) (by simp) ?_; intro g4 cap4 w4 hown4 hgrow hat hlt4; go_frame)
      have hb4 : Below w2.heap.size w2 w4 := hbA.grown hgrow hbA.size (fun j hj => (World.ownsRow.lt Rk j hj).1)
      rw [← enCells_append, ← entsM_succ] at hown4
      go_roundw
      case rel => exact ⟨k + 1, by omega, by go_num, hown4, hb4⟩
      case measure => simp [intOf]; omega
    · obtain rfl : k = n := by omega
      have HLE := Lib.hid (entsM_length k)
      obtain ⟨g, cap, rfl, hcap, hgb, hgl, hcell⟩ := row_enM Rk HLE.out (by omega) (by omega)
      have hms2 := W2.size
      have hv : EnS (Made E b bt bd w2 wr) wr (.slice (some ⟨g, 0, none⟩) (entsM k).length cap) (entsM k) :=
        ⟨_, cap, rfl, by rw [HLE.out]; omega, .inr ⟨g, rfl, .inr ⟨hgb, hgl⟩, hgl, hcell⟩⟩
      have HAP := Lib.hid (lw_appW W2.lw (by decide) wr Bk _ (entsM k) hv (fun j y hj => by
        have hjk : j < k := by have := (List.getElem?_eq_some_iff.1 hj).1; rwa [HLE.out] at this
        rw [entsM_at hjk] at hj
        obtain rfl := Option.some.inj hj
        exact ⟨by show (j : Int) + 1 = 1 + 0 + (j : Int); omega, rfl⟩) (by rw [HLE.out]; show (0 : Int) + (k : Int) ≤ 8; omega) hms2 (fun y hy => HTb.out y (hb2.trans hy)) (by decide))
      rw [HLE.out] at HAP
      have v1 := (W2.wld.below Bk).cells.1.2.1
      have hd0 : decide ((k : Int) + 1 ≤ (k : Int)) = false := by simp; omega
      go_wp2_with fail
      clear hd0
      refine HAP.out.mono ?_
      rintro e w3 ⟨rfl, ⟨D3, L3, _⟩, hb3, hk3⟩
      have V3 := (W2.wld.below Bk).keep hk3 (Or.inl W2.but)
      have hB2 : Below w1.heap.size w1 wr := hb2.trans (Bk.mono hms2)
      have B3 := hB2.trans hb3
      have Q3 : ListR w3 g k := ListR.keep (w := wr) ⟨hgl, hcell⟩ (hk3 g (Or.inr ⟨hgb, hgl⟩)) hb3.size
      have hgE : But (fun j => E j ∨ (w2.heap.size ≤ j ∧ j < wr.heap.size)) b bt bd g := made_but W2.lw g (Or.inr ⟨hgb, hgl⟩)
      have L3' : Lw w1.heap.size (fun j => E j ∨ (w2.heap.size ≤ j ∧ j < wr.heap.size)) w3 b B bt bd 19 3 8 1 (entsM k) (10000 + k) D3 := L3
      clear HAP v1 hk3 hb3 hv W2 Bk hcell Rk L3 hgl
      have v0 := V3.cells.1.1
      have v1 := V3.cells.1.2.1
      obtain ⟨T3, hW3, hN3, _⟩ := L3'
      have hx : (entsM k)[p]? = some (entM p) := entsM_at hpn
      have H3 := hN3.harmd
      have H4 := H3.hit2 hx (hits_lose _)
      have F4 := freed_lose H3 hx hN3.free (.inl rfl)
      have T4 := (two_neat H3 hx rfl rfl).lose2 H3.geo (H3.geo.lt (.inl rfl) _).2
      have hbk2 : (⟨3, 8, 1, ((entsM k).length : Int)⟩ : Lg).blk 2 (entM p).index = 3 + ((p : Int) + 1) % 8 := blk2 _ p
      have hbk3 : (⟨3, 8, 1, ((entsM k).length : Int)⟩ : Lg).blk 3 (entM p).index = 11 + ((p : Int) + 1) % 8 := blk3 _ p
      have T4 := T4.self
      rw [hbk2] at H4 F4 T4
      have HX := Lib.hid hx
      have HB3 := Lib.hid hbk3
      have hp0 : (0 : Int) ≤ (p : Int) := by omega
      have hp4 : (p : Int) ≤ 3 := by omega
      clear hx hbk2 hbk3 hN3 H3
      go_wp2_with fail
      refine (devw_lose _ B3.size hW3.dev).mono ?_
      rintro e w4 ⟨rfl, X4, hb4, hk4⟩
      have B4 := B3.trans hb4
      have Q4 := Q3.keep (hk4 g hgE.1) hb4.size
      clear hW3 V3 v0 v1 hb4 hk4 B3 Q3
      generalize D3.onB (3 + ((p : Int) + 1) % 8) Blk.lose = D4 at H4 F4 T4 X4
      cases a2
      · have X5 := X4
        have H5 := H4
        have F5 := F4
        have T5 := T4
        have Q5 := Q4
        have B5 := B4
        clear X4 H4 F4 T4 Q4 B4
        go_wp2_with fail
        refine (lo_open_id (base := 3) (sz := 8) (first := 1) X5 H5 F5 (fun _ _ => rfl) (by decide) B5.size (fun y hy => HTb.out y (B5.trans hy))).mono ?_
        rintro e w6 ⟨c, ct, cd, rfl, W6, hb6, hk6, hs6⟩
        have B6 := B5.trans hb6
        have Q6 := Q5.keep (hk6 g hgE.1) hb6.size
        have hg5 := Q5.1
        obtain ⟨vs, vt, vq, hvq⟩ := cells_at (Q6.2 p _ HX.out).1
        have hgc : But (fun i => (E i ∨ (w2.heap.size ≤ i ∧ i < wr.heap.size)) ∨ i = c ∨ i = ct ∨ i = cd) c ct cd g := ⟨.inl hgE.1, by omega, W6.terms.not_cells hvq, W6.hurts.not_cells hvq⟩
        have HGC := Lib.hid hgc
        have HL6 := Lib.hid (lo_last W6 (by decide) (by rw [HLE.out]; omega) (k : Int) (by rw [HLE.out]; omega))
        have HH6 := Lib.hid (lo_hurt W6 (by rw [HLE.out]; omega) ((p : Int) + 1) (.inr ⟨p, by rw [HLE.out]; exact hpn, updB_same _ _ _, (fun i hi => by rw [updB_other (by omega)]), by omega⟩))
        clear X5 F5 Q5 B5 hb6 hk6 hs6 hvq hg5 hgc
        go_wp2_with fail
        refine (HL6.out _ (Below.refl _ _)).mono ?_
        rintro e w7 ⟨rfl, hb7⟩
        go_wp2_with fail
        refine (HH6.out _ hb7).mono ?_
        rintro e w8 ⟨rfl, hb8⟩
        have b8 := hb7.trans (hb8.mono hb7.size)
        have W8 := W6.below b8
        have Q8 := Q6.keep (b8.block g Q6.1) b8.size
        have B8 := B6.trans (b8.mono B6.size)
        clear hb7 hb8 b8 W6 Q6 B6 HL6 HH6
        go_wp2_with fail
        refine (devw_fall t (by omega) B8.size W8.dev).mono ?_
        rintro e w9 ⟨rfl, X9, hb9, hk9⟩
        have W9 := W8.turn X9 hk9
        have Q9 := Q8.keep (hk9 g HGC.out.1) hb9.size
        have B9 := B8.trans hb9
        obtain ⟨m0, m1, m2⟩ := Q9.2 p _ HX.out
        have hpk : (p : Int) < (k : Int) := by omega
        have hpkc : (p : Int) < (cap : Int) := by omega
        have hh : (⟨3, 8, 1, ((entsM k).length : Int)⟩ : Lg).has (entM p).index = true := by
          show decide ((1 : Int) ≤ (p : Int) + 1 ∧ (p : Int) + 1 - 1 < ((entsM k).length : Int)) = true
          rw [HLE.out]
          simp
          omega
        obtain ⟨V, hV⟩ : ∃ V, V = (Dv.fall D4 t).mendV ⟨3, 8, 1, ((entsM k).length : Int)⟩ (entM p) := ⟨_, rfl⟩
        have HME := Lib.hid (pMend_any (entM p) W9 hh rfl (by rw [TT_at (j := p) (i := (entM p).index) HX.out (show (p : Int) + 1 = 1 + (p : Int) by omega)]; split; exact .inr rfl; exact .inl rfl) B9.size (fun y hy => HTb.out y (B9.trans hy)) (by show _ ≤ _; rw [show (Dv.fall _ t).writes = 0 from H5.calm.writes]; decide) (ho_fit H5.geo H5.ents (by decide)) ⟨⟨by show _ ≤ (p : Int) + 1; omega, by show (p : Int) + 1 ≤ _; omega⟩, ⟨by show (-9223372036854775808 : Int) ≤ 2; decide, by show (2 : Int) ≤ _; decide⟩, by show (1 : Nat) ≤ maxLen; unfold maxLen; decide⟩ (by show (0 : Int) ≤ (p : Int) + 1; omega) (by decide) V hV)
        obtain ⟨pw1, pw2, pw3⟩ := mend_power H5 HX.out (updB_same _ _ _) T5 t
        have hvw := mend_writes (Dv.fall D4 t) ⟨3, 8, 1, ((entsM k).length : Int)⟩ (entM p)
        rw [← hV] at pw1 pw2 pw3 hvw
        rw [show (Dv.fall _ t).writes = 0 from H5.calm.writes] at hvw
        obtain ⟨r1, r2, HC, hr1⟩ := crash_two H5 HX.out pw2 [a4]
        have HG1 : Hid (∀ i, i ≠ p → updB (updB yes p false) p r1 i = true) := fun i hi => by rw [updB_other hi, updB_other hi]
        have HG2 : Hid (updB (updB yes p false) p r1 p = r1) := updB_same _ _ _
        generalize updB (updB yes p false) p r1 = gg at HC HG1 HG2
        generalize updB yes p r2 = mm at HC
        have HPW := Lib.hid pw1
        have HR1 : Hid (V.1 = 0 → r1 = true) := fun h => hr1 (pw3 h)
        have HVW := Lib.hid hvw
        clear W8 X9 hb9 hk9 B8 Q8 hh hV pw1 pw2 pw3 hr1 hvw T5 H5
        unfold enV at HME
        go_wp2_with fail
        refine HME.out.mono ?_
        rintro e w10 ⟨rfl, _, X10, hb10, hk10⟩
        have B10 := B9.trans hb10
        have Q10 := Q9.keep (hk10 g HGC.out) hb10.size
        have bA := (Below.refl w10.heap.size w10).alloc (Nat.le_refl _) (.cells #[.int .i64 a4] 84)
        have HCR := Lib.hid (devw_crash _ [a4] (by have := HVW.out; omega) (X10.below bA) (fts_one w10 a4))
        clear W9 Q9 B9 hb10 hk10 HME m0 m1 m2 X10
        go_wp2_with fail
        refine HCR.out.mono ?_
        rintro e w11 ⟨C, rfl, hd, hb11⟩
        have hb11' := bA.trans (hb11.mono bA.size)
        have hQA := Q10.keep (bA.block g Q10.1) bA.size
        have X11 : DevW w1.heap.size (fun i => i = g) w11 C (V.2.crash [a4]) := devw_new hd (Nat.le_trans B10.size bA.size) (fun i hi => by rw [hi]; exact hQA.1) hb11.size
        have Q11 := hQA.keep (hb11.block g hQA.1) hb11.size
        have B11 := B10.trans (hb11'.mono B10.size)
        clear hd hb11 hb11' hQA bA HCR Q10 B10
        go_wp2_with fail
        refine (lo_open (base := 3) (sz := 8) (first := 1) X11 HC (by decide) B11.size (fun y hy => HTb.out y (B11.trans hy))).mono ?_
        rintro e w12 ⟨d, dt, dd, D12, rfl, W12, H12, _, _, hb12, hk12, hs12⟩
        have B12 := B11.trans hb12
        have Q12 := Q11.keep (hk12 g rfl) hb12.size
        obtain ⟨vs2, vt2, vq2, hvq2⟩ := cells_at (Q12.2 p _ HX.out).1
        have hg11 := Q11.1
        have HGD : Hid (But (fun i => i = g ∨ i = d ∨ i = dt ∨ i = dd) d dt dd g) := ⟨.inl rfl, by omega, W12.terms.not_cells hvq2, W12.hurts.not_cells hvq2⟩
        have HL12 := Lib.hid (lo_last W12 (by decide) (by rw [HLE.out]; omega) (k : Int) (by rw [HLE.out]; omega))
        clear X11 Q11 B11 hb12 hk12 hs12 hvq2 hg11 HC
        rcases HPW.out with hf | hf
        all_goals
          go_wp2_with fail
          refine (HL12.out _ (Below.refl _ _)).mono ?_
          rintro e w13 ⟨rfl, hb13⟩
          have W13 := W12.below hb13
          have Q13 := Q12.keep (hb13.block g Q12.1) hb13.size
          have B13 := B12.trans (hb13.mono B12.size)
          clear hb13 W12 Q12 B12 HL12
          go_wp2_with fail
          go_loopw [134] (fun i wx => ∃ j : Nat, j ≤ k ∧ i = .int .i64 (j : Int) ∧ LogW w1.heap.size (fun i => i = g ∨ i = d ∨ i = dt ∨ i = dd) wx d C dt dd D12 ⟨3, 8, 1, ((entsM k).length : Int)⟩ (10000 + j) (TT 1 (entsM k) gg mm (entsM k).length) (HH 1 gg (entsM k).length) ∧ ListR wx g k ∧ Below w1.heap.size w1 wx) (fun i _ => k - (intOf i).toNat)
          case atStart => exact ⟨0, by omega, rfl, W13, Q13, B13⟩
          case round =>
            obtain ⟨j, hj, rfl, Wj, Qj, Bj⟩ := hrel
            clear W13 Q13 B13
            by_cases hlt : j < k
            · have hlt' : (j : Int) < (k : Int) := by omega
              have hltc : (j : Int) < (cap : Int) := by omega
              have hj0 : (0 : Int) ≤ (j : Int) := by omega
              have hj4 : (j : Int) ≤ 3 := by omega
              obtain ⟨y0, y1, y2⟩ := Qj.2 j _ (entsM_at hlt)
              have bA := (Below.refl wr.heap.size wr).alloc (Nat.le_refl _) (.cells #[.int .i64 (entM j).index, .int .i64 (entM j).term, .string (entM j).data] 69)
              have NA := EnB.new wr (entM j)
              have Wa := Wj.alloc (.cells #[.int .i64 (entM j).index, .int .i64 (entM j).term, .string (entM j).data] 69)
              have Qa := Qj.keep (bA.block g Qj.1) bA.size
              have Ba := Bj.trans (bA.mono Bj.size)
              have hbox : But (fun i => (i = g ∨ i = d ∨ i = dt ∨ i = dd) ∨ i = wr.heap.size) d dt dd wr.heap.size := ⟨.inr rfl, Nat.ne_of_gt Wj.log.lt, Nat.ne_of_gt Wj.terms.lt, Nat.ne_of_gt Wj.hurts.lt⟩
              have hgb2 : But (fun i => (i = g ∨ i = d ∨ i = dt ∨ i = dd) ∨ i = wr.heap.size) d dt dd g := ⟨.inl HGD.out.1, HGD.out.2⟩
              have hTat := TT_at (f := 1) (g := gg) (m := mm) (i := (j : Int) + 1) (j := j) (entsM_at hlt) (by omega)
              obtain ⟨Z, hZ⟩ : ∃ Z, Z = getE (if gg j = true then entR (entM j) else rc0) (TT 1 (entsM k) gg mm (entsM k).length ((j : Int) + 1)) ((j : Int) + 1) := ⟨_, rfl⟩
              have HRD := Lib.hid (lo_read Wa H12 (by decide) j (entM j) (entsM_at hlt) ((j : Int) + 1) (by omega) Z hZ (fun h => .inr (by rw [hTat, if_pos (.inl h)])) (TT_inR H12.ents.ok) Ba.size (fun y hy => HTb.out y (Ba.trans hy)) (by omega))
              have Heq := eq_enn (entM j)
              rw [hTat] at hZ
              clear hTat Wj Bj
              cases hgj : gg j with
              | true =>
                have hZE : Z = (entM j, 1) := by
                  rw [hZ, if_pos hgj, if_pos (.inl hgj)]
                  exact getE_good (.inr rfl)
                rw [hZE] at HRD
                clear hZ hZE
                unfold lgetV enV at HRD
                go_wp2_with fail
                refine HRD.out.mono ?_
                rintro e w15 ⟨rfl, W15, hb15, hk15⟩
                have N15 := NA.keep hk15 hbox
                have Q15 := Qa.keep (hk15 g hgb2) hb15.size
                have B15 := Ba.trans hb15
                have bB := (Below.refl w15.heap.size w15).alloc (Nat.le_refl _) (.cells #[.int .i64 (entM j).index, .int .i64 (entM j).term, .string (entM j).data] 69)
                have NB := EnB.new w15 (entM j)
                have NC := N15.below bB
                have WB := (W15.less (F := fun i => i = g ∨ i = d ∨ i = dt ∨ i = dd) (fun i hi => .inl hi) (.inr (.inl rfl)) (.inr (.inr (.inl rfl))) (.inr (.inr (.inr rfl)))).below bB
                have QB := Q15.keep (bB.block g Q15.1) bB.size
                have BB := B15.trans (bB.mono B15.size)
                obtain ⟨⟨u0, u1, u2⟩, uz⟩ := NB.cells
                obtain ⟨⟨x0, x1, x2⟩, xz⟩ := NC.cells
                clear uz xz W15 hb15 hk15 N15 Q15 B15 NA Wa Qa Ba HRD y0 y1 y2 hgj
                by_cases hjp : j = p
                · subst hjp
                  go_wp2_with fail
                  go_roundw
                  case rel => exact ⟨j + 1, by omega, by go_num, WB, QB, BB⟩
                  case measure => simp [intOf]; omega
                · have ejp : ((j : Int) != (p : Int)) = true := by simp; omega
                  have ejq : ((j : Int) == (p : Int)) = false := by simp; omega
                  go_wp2_with fail
                  go_roundw
                  case rel => exact ⟨j + 1, by omega, by go_num, WB, QB, BB⟩
                  case measure => simp [intOf]; omega
              | false =>
                obtain rfl : j = p := Classical.byContradiction (fun h => by have := HG1.out j h; rw [hgj] at this; cases this)
                first
                  | (exfalso
                     have h1 := HR1.out hf
                     have h2 := HG2.out
                     rw [hgj, h1] at h2
                     cases h2)
                  | (obtain ⟨zi, zt, zm, hZE, hzm⟩ : ∃ (zi : Int) (zt : Int) (zm : Int), Z = (⟨zi, zt, ⟨#[]⟩⟩, zm) ∧ (zm = 2 ∨ zm = 3) := by
                       rw [hZ, if_neg (by rw [hgj]; decide)]
                       by_cases hq : gg j = true ∨ mm j = true
                       · rw [if_pos hq]; exact ⟨_, _, _, getE_hurt, .inl rfl⟩
                       · rw [if_neg hq]; exact ⟨_, _, _, getE_lost, .inr rfl⟩
                     rw [hZE] at HRD
                     clear hZ hZE
                     unfold lgetV enV at HRD
                     rcases hzm with rfl | rfl
                     all_goals
                       go_wp2_with fail
                       refine HRD.out.mono ?_
                       rintro e w15 ⟨rfl, W15, hb15, hk15⟩
                       have Q15 := Qa.keep (hk15 g hgb2) hb15.size
                       have B15 := Ba.trans hb15
                       have bB := (Below.refl w15.heap.size w15).alloc (Nat.le_refl _) (.cells #[.int .i64 zi, .int .i64 zt, .string ⟨#[]⟩] 69)
                       have WB := (W15.less (F := fun i => i = g ∨ i = d ∨ i = dt ∨ i = dd) (fun i hi => .inl hi) (.inr (.inl rfl)) (.inr (.inr (.inl rfl))) (.inr (.inr (.inr rfl)))).below bB
                       have QB := Q15.keep (bB.block g Q15.1) bB.size
                       have BB := B15.trans (bB.mono B15.size)
                       clear W15 hb15 hk15 Q15 B15 NA Wa Qa Ba HRD y0 y1 y2 hgj
                       go_wp2_with fail
                       go_roundw
                       case rel => exact ⟨j + 1, by omega, by go_num, WB, QB, BB⟩
                       case measure => simp [intOf]; omega)
            · obtain rfl : j = k := by omega
              go_wp2_with fail
              go_ret
              exact ⟨rfl, hb1.trans (Bj.mono hb1.size)⟩
      · have H5 := H4.hit3 HX.out (hits_lose _)
        have F5 := freed_lose H4 HX.out F4 (.inr rfl)
        have T5 := (T4.lose3 H4.geo (H4.geo.lt (.inr rfl) _).2).self
        rw [HB3.out] at H5 F5 T5
        go_wp2_with fail
        refine (devw_lose _ B4.size X4).mono ?_
        rintro e w5 ⟨rfl, X5, hb5, hk5⟩
        have B5 := B4.trans hb5
        have Q5 := Q4.keep (hk5 g hgE.1) hb5.size
        generalize D4.onB (11 + ((p : Int) + 1) % 8) Blk.lose = D5 at H5 F5 T5 X5
        clear X4 H4 F4 T4 Q4 B4 hb5 hk5
        go_wp2_with fail
        refine (lo_open_id (base := 3) (sz := 8) (first := 1) X5 H5 F5 (fun _ h => h) (by decide) B5.size (fun y hy => HTb.out y (B5.trans hy))).mono ?_
        rintro e w6 ⟨c, ct, cd, rfl, W6, hb6, hk6, hs6⟩
        have B6 := B5.trans hb6
        have Q6 := Q5.keep (hk6 g hgE.1) hb6.size
        have hg5 := Q5.1
        obtain ⟨vs, vt, vq, hvq⟩ := cells_at (Q6.2 p _ HX.out).1
        have hgc : But (fun i => (E i ∨ (w2.heap.size ≤ i ∧ i < wr.heap.size)) ∨ i = c ∨ i = ct ∨ i = cd) c ct cd g := ⟨.inl hgE.1, by omega, W6.terms.not_cells hvq, W6.hurts.not_cells hvq⟩
        have HGC := Lib.hid hgc
        have HL6 := Lib.hid (lo_last W6 (by decide) (by rw [HLE.out]; omega) (k : Int) (by rw [HLE.out]; omega))
        have HH6 := Lib.hid (lo_hurt W6 (by rw [HLE.out]; omega) ((p : Int) + 1) (.inr ⟨p, by rw [HLE.out]; exact hpn, updB_same _ _ _, (fun i hi => by rw [updB_other (by omega)]), by omega⟩))
        clear X5 F5 Q5 B5 hb6 hk6 hs6 hvq hg5 hgc
        go_wp2_with fail
        refine (HL6.out _ (Below.refl _ _)).mono ?_
        rintro e w7 ⟨rfl, hb7⟩
        go_wp2_with fail
        refine (HH6.out _ hb7).mono ?_
        rintro e w8 ⟨rfl, hb8⟩
        have b8 := hb7.trans (hb8.mono hb7.size)
        have W8 := W6.below b8
        have Q8 := Q6.keep (b8.block g Q6.1) b8.size
        have B8 := B6.trans (b8.mono B6.size)
        clear hb7 hb8 b8 W6 Q6 B6 HL6 HH6
        go_wp2_with fail
        refine (devw_fall t (by omega) B8.size W8.dev).mono ?_
        rintro e w9 ⟨rfl, X9, hb9, hk9⟩
        have W9 := W8.turn X9 hk9
        have Q9 := Q8.keep (hk9 g HGC.out.1) hb9.size
        have B9 := B8.trans hb9
        obtain ⟨m0, m1, m2⟩ := Q9.2 p _ HX.out
        have hpk : (p : Int) < (k : Int) := by omega
        have hpkc : (p : Int) < (cap : Int) := by omega
        have hh : (⟨3, 8, 1, ((entsM k).length : Int)⟩ : Lg).has (entM p).index = true := by
          show decide ((1 : Int) ≤ (p : Int) + 1 ∧ (p : Int) + 1 - 1 < ((entsM k).length : Int)) = true
          rw [HLE.out]
          simp
          omega
        obtain ⟨V, hV⟩ : ∃ V, V = (Dv.fall D5 t).mendV ⟨3, 8, 1, ((entsM k).length : Int)⟩ (entM p) := ⟨_, rfl⟩
        have HME := Lib.hid (pMend_any (entM p) W9 hh rfl (by rw [TT_at (j := p) (i := (entM p).index) HX.out (show (p : Int) + 1 = 1 + (p : Int) by omega)]; split; exact .inr rfl; exact .inl rfl) B9.size (fun y hy => HTb.out y (B9.trans hy)) (by show _ ≤ _; rw [show (Dv.fall _ t).writes = 0 from H5.calm.writes]; decide) (ho_fit H5.geo H5.ents (by decide)) ⟨⟨by show _ ≤ (p : Int) + 1; omega, by show (p : Int) + 1 ≤ _; omega⟩, ⟨by show (-9223372036854775808 : Int) ≤ 2; decide, by show (2 : Int) ≤ _; decide⟩, by show (1 : Nat) ≤ maxLen; unfold maxLen; decide⟩ (by show (0 : Int) ≤ (p : Int) + 1; omega) (by decide) V hV)
        obtain ⟨pw1, pw2, pw3⟩ := mend_power H5 HX.out (updB_same _ _ _) T5 t
        have hvw := mend_writes (Dv.fall D5 t) ⟨3, 8, 1, ((entsM k).length : Int)⟩ (entM p)
        rw [← hV] at pw1 pw2 pw3 hvw
        rw [show (Dv.fall _ t).writes = 0 from H5.calm.writes] at hvw
        obtain ⟨r1, r2, HC, hr1⟩ := crash_two H5 HX.out pw2 [a4]
        have HG1 : Hid (∀ i, i ≠ p → updB (updB yes p false) p r1 i = true) := fun i hi => by rw [updB_other hi, updB_other hi]
        have HG2 : Hid (updB (updB yes p false) p r1 p = r1) := updB_same _ _ _
        generalize updB (updB yes p false) p r1 = gg at HC HG1 HG2
        generalize updB (updB yes p false) p r2 = mm at HC
        have HPW := Lib.hid pw1
        have HR1 : Hid (V.1 = 0 → r1 = true) := fun h => hr1 (pw3 h)
        have HVW := Lib.hid hvw
        clear W8 X9 hb9 hk9 B8 Q8 hh hV pw1 pw2 pw3 hr1 hvw T5 H5
        unfold enV at HME
        go_wp2_with fail
        refine HME.out.mono ?_
        rintro e w10 ⟨rfl, _, X10, hb10, hk10⟩
        have B10 := B9.trans hb10
        have Q10 := Q9.keep (hk10 g HGC.out) hb10.size
        have bA := (Below.refl w10.heap.size w10).alloc (Nat.le_refl _) (.cells #[.int .i64 a4] 84)
        have HCR := Lib.hid (devw_crash _ [a4] (by have := HVW.out; omega) (X10.below bA) (fts_one w10 a4))
        clear W9 Q9 B9 hb10 hk10 HME m0 m1 m2 X10
        go_wp2_with fail
        refine HCR.out.mono ?_
        rintro e w11 ⟨C, rfl, hd, hb11⟩
        have hb11' := bA.trans (hb11.mono bA.size)
        have hQA := Q10.keep (bA.block g Q10.1) bA.size
        have X11 : DevW w1.heap.size (fun i => i = g) w11 C (V.2.crash [a4]) := devw_new hd (Nat.le_trans B10.size bA.size) (fun i hi => by rw [hi]; exact hQA.1) hb11.size
        have Q11 := hQA.keep (hb11.block g hQA.1) hb11.size
        have B11 := B10.trans (hb11'.mono B10.size)
        clear hd hb11 hb11' hQA bA HCR Q10 B10
        go_wp2_with fail
        refine (lo_open (base := 3) (sz := 8) (first := 1) X11 HC (by decide) B11.size (fun y hy => HTb.out y (B11.trans hy))).mono ?_
        rintro e w12 ⟨d, dt, dd, D12, rfl, W12, H12, _, _, hb12, hk12, hs12⟩
        have B12 := B11.trans hb12
        have Q12 := Q11.keep (hk12 g rfl) hb12.size
        obtain ⟨vs2, vt2, vq2, hvq2⟩ := cells_at (Q12.2 p _ HX.out).1
        have hg11 := Q11.1
        have HGD : Hid (But (fun i => i = g ∨ i = d ∨ i = dt ∨ i = dd) d dt dd g) := ⟨.inl rfl, by omega, W12.terms.not_cells hvq2, W12.hurts.not_cells hvq2⟩
        have HL12 := Lib.hid (lo_last W12 (by decide) (by rw [HLE.out]; omega) (k : Int) (by rw [HLE.out]; omega))
        clear X11 Q11 B11 hb12 hk12 hs12 hvq2 hg11 HC
        rcases HPW.out with hf | hf
        all_goals
          go_wp2_with fail
          refine (HL12.out _ (Below.refl _ _)).mono ?_
          rintro e w13 ⟨rfl, hb13⟩
          have W13 := W12.below hb13
          have Q13 := Q12.keep (hb13.block g Q12.1) hb13.size
          have B13 := B12.trans (hb13.mono B12.size)
          clear hb13 W12 Q12 B12 HL12
          go_wp2_with fail
          go_loopw [134] (fun i wx => ∃ j : Nat, j ≤ k ∧ i = .int .i64 (j : Int) ∧ LogW w1.heap.size (fun i => i = g ∨ i = d ∨ i = dt ∨ i = dd) wx d C dt dd D12 ⟨3, 8, 1, ((entsM k).length : Int)⟩ (10000 + j) (TT 1 (entsM k) gg mm (entsM k).length) (HH 1 gg (entsM k).length) ∧ ListR wx g k ∧ Below w1.heap.size w1 wx) (fun i _ => k - (intOf i).toNat)
          case atStart => exact ⟨0, by omega, rfl, W13, Q13, B13⟩
          case round =>
            obtain ⟨j, hj, rfl, Wj, Qj, Bj⟩ := hrel
            clear W13 Q13 B13
            by_cases hlt : j < k
            · have hlt' : (j : Int) < (k : Int) := by omega
              have hltc : (j : Int) < (cap : Int) := by omega
              have hj0 : (0 : Int) ≤ (j : Int) := by omega
              have hj4 : (j : Int) ≤ 3 := by omega
              obtain ⟨y0, y1, y2⟩ := Qj.2 j _ (entsM_at hlt)
              have bA := (Below.refl wr.heap.size wr).alloc (Nat.le_refl _) (.cells #[.int .i64 (entM j).index, .int .i64 (entM j).term, .string (entM j).data] 69)
              have NA := EnB.new wr (entM j)
              have Wa := Wj.alloc (.cells #[.int .i64 (entM j).index, .int .i64 (entM j).term, .string (entM j).data] 69)
              have Qa := Qj.keep (bA.block g Qj.1) bA.size
              have Ba := Bj.trans (bA.mono Bj.size)
              have hbox : But (fun i => (i = g ∨ i = d ∨ i = dt ∨ i = dd) ∨ i = wr.heap.size) d dt dd wr.heap.size := ⟨.inr rfl, Nat.ne_of_gt Wj.log.lt, Nat.ne_of_gt Wj.terms.lt, Nat.ne_of_gt Wj.hurts.lt⟩
              have hgb2 : But (fun i => (i = g ∨ i = d ∨ i = dt ∨ i = dd) ∨ i = wr.heap.size) d dt dd g := ⟨.inl HGD.out.1, HGD.out.2⟩
              have hTat := TT_at (f := 1) (g := gg) (m := mm) (i := (j : Int) + 1) (j := j) (entsM_at hlt) (by omega)
              obtain ⟨Z, hZ⟩ : ∃ Z, Z = getE (if gg j = true then entR (entM j) else rc0) (TT 1 (entsM k) gg mm (entsM k).length ((j : Int) + 1)) ((j : Int) + 1) := ⟨_, rfl⟩
              have HRD := Lib.hid (lo_read Wa H12 (by decide) j (entM j) (entsM_at hlt) ((j : Int) + 1) (by omega) Z hZ (fun h => .inr (by rw [hTat, if_pos (.inl h)])) (TT_inR H12.ents.ok) Ba.size (fun y hy => HTb.out y (Ba.trans hy)) (by omega))
              have Heq := eq_enn (entM j)
              rw [hTat] at hZ
              clear hTat Wj Bj
              cases hgj : gg j with
              | true =>
                have hZE : Z = (entM j, 1) := by
                  rw [hZ, if_pos hgj, if_pos (.inl hgj)]
                  exact getE_good (.inr rfl)
                rw [hZE] at HRD
                clear hZ hZE
                unfold lgetV enV at HRD
                go_wp2_with fail
                refine HRD.out.mono ?_
                rintro e w15 ⟨rfl, W15, hb15, hk15⟩
                have N15 := NA.keep hk15 hbox
                have Q15 := Qa.keep (hk15 g hgb2) hb15.size
                have B15 := Ba.trans hb15
                have bB := (Below.refl w15.heap.size w15).alloc (Nat.le_refl _) (.cells #[.int .i64 (entM j).index, .int .i64 (entM j).term, .string (entM j).data] 69)
                have NB := EnB.new w15 (entM j)
                have NC := N15.below bB
                have WB := (W15.less (F := fun i => i = g ∨ i = d ∨ i = dt ∨ i = dd) (fun i hi => .inl hi) (.inr (.inl rfl)) (.inr (.inr (.inl rfl))) (.inr (.inr (.inr rfl)))).below bB
                have QB := Q15.keep (bB.block g Q15.1) bB.size
                have BB := B15.trans (bB.mono B15.size)
                obtain ⟨⟨u0, u1, u2⟩, uz⟩ := NB.cells
                obtain ⟨⟨x0, x1, x2⟩, xz⟩ := NC.cells
                clear uz xz W15 hb15 hk15 N15 Q15 B15 NA Wa Qa Ba HRD y0 y1 y2 hgj
                by_cases hjp : j = p
                · subst hjp
                  go_wp2_with fail
                  go_roundw
                  case rel => exact ⟨j + 1, by omega, by go_num, WB, QB, BB⟩
                  case measure => simp [intOf]; omega
                · have ejp : ((j : Int) != (p : Int)) = true := by simp; omega
                  have ejq : ((j : Int) == (p : Int)) = false := by simp; omega
                  go_wp2_with fail
                  go_roundw
                  case rel => exact ⟨j + 1, by omega, by go_num, WB, QB, BB⟩
                  case measure => simp [intOf]; omega
              | false =>
                obtain rfl : j = p := Classical.byContradiction (fun h => by have := HG1.out j h; rw [hgj] at this; cases this)
                first
                  | (exfalso
                     have h1 := HR1.out hf
                     have h2 := HG2.out
                     rw [hgj, h1] at h2
                     cases h2)
                  | (obtain ⟨zi, zt, zm, hZE, hzm⟩ : ∃ (zi : Int) (zt : Int) (zm : Int), Z = (⟨zi, zt, ⟨#[]⟩⟩, zm) ∧ (zm = 2 ∨ zm = 3) := by
                       rw [hZ, if_neg (by rw [hgj]; decide)]
                       by_cases hq : gg j = true ∨ mm j = true
                       · rw [if_pos hq]; exact ⟨_, _, _, getE_hurt, .inl rfl⟩
                       · rw [if_neg hq]; exact ⟨_, _, _, getE_lost, .inr rfl⟩
                     rw [hZE] at HRD
                     clear hZ hZE
                     unfold lgetV enV at HRD
                     rcases hzm with rfl | rfl
                     all_goals
                       go_wp2_with fail
                       refine HRD.out.mono ?_
                       rintro e w15 ⟨rfl, W15, hb15, hk15⟩
                       have Q15 := Qa.keep (hk15 g hgb2) hb15.size
                       have B15 := Ba.trans hb15
                       have bB := (Below.refl w15.heap.size w15).alloc (Nat.le_refl _) (.cells #[.int .i64 zi, .int .i64 zt, .string ⟨#[]⟩] 69)
                       have WB := (W15.less (F := fun i => i = g ∨ i = d ∨ i = dt ∨ i = dd) (fun i hi => .inl hi) (.inr (.inl rfl)) (.inr (.inr (.inl rfl))) (.inr (.inr (.inr rfl)))).below bB
                       have QB := Q15.keep (bB.block g Q15.1) bB.size
                       have BB := B15.trans (bB.mono B15.size)
                       clear W15 hb15 hk15 Q15 B15 NA Wa Qa Ba HRD y0 y1 y2 hgj
                       go_wp2_with fail
                       go_roundw
                       case rel => exact ⟨j + 1, by omega, by go_num, WB, QB, BB⟩
                       case measure => simp [intOf]; omega)
            · obtain rfl : j = k := by omega
              go_wp2_with fail
              go_ret
              exact ⟨rfl, hb1.trans (Bj.mono hb1.size)⟩

theorem own : ownKnob Tryd.prog.godebug = none := by kernel_rfl
theorem laidOut : laidOutB Tryd.prog = true := by kernel_rfl
theorem gHi : Tryd.prog.globalNamed "orchard/sum.highTable" = some 0 := by kernel_rfl
theorem gLo : Tryd.prog.globalNamed "orchard/sum.lowTable" = some 1 := by kernel_rfl
theorem gHiType : (Tryd.prog.globals[0]?).map (·.type) = some 165 := by kernel_rfl
theorem gLoType : (Tryd.prog.globals[1]?).map (·.type) = some 165 := by kernel_rfl
theorem cellsTab : Tryd.prog.cellsOf 165 = 16 := by kernel_rfl
theorem cellsSum : Tryd.prog.cellsOf 158 = 1 := by kernel_rfl

theorem table_lo {W : World} (h : laidMetH Tryd.prog Rows.plogMendsRow.laid W) : Lib.TabIs Tryd.prog W "orchard/sum.lowTable" .u32 LO :=
  Lib.tabIs_of_head (rest := [("orchard/sum.highTable", Rows.laid_orchard_sum_highTable)]) gLo gLoType Tryd.underlying165 Tryd.underlying158 cellsSum cellsTab h
theorem table_hi {W : World} (h : laidMetH Tryd.prog Rows.plogMendsRow.laid W) : Lib.TabIs Tryd.prog W "orchard/sum.highTable" .u32 HI :=
  Lib.tabIs_of_head (rest := []) gHi gHiType Tryd.underlying165 Tryd.underlying158 cellsSum cellsTab (laidMet.tail (show laidMet Tryd.prog [("orchard/sum.lowTable", Rows.laid_orchard_sum_lowTable), ("orchard/sum.highTable", Rows.laid_orchard_sum_highTable)] W from h))
theorem tabs_of {W : World} (h : laidMetH Tryd.prog Rows.plogMendsRow.laid W) : Tabs W := by
  have c0 := fun (j : Nat) (hj : j < 16) => (table_hi h).cell gHi j hj
  have c1 := fun (j : Nat) (hj : j < 16) => (table_lo h).cell gLo j hj
  refine ⟨⟨World.block_lt_of_cell? W _ (c0 0 (by decide)), World.block_lt_of_cell? W _ (c1 0 (by decide))⟩, fun j hj => ?_, fun j hj => ?_⟩
  · rw [c0 j hj, hi_cast j]
  · rw [c1 j hj, lo_cast j]

theorem contract (H : Type) (enc : TypeId × Value → H) (W : World) (base : Nat) (args : Array Value) (ds gs : List (DataW H)) (before : List MemPlace)
    (hval : ∀ (j : Nat) t v, Tryd.f11.params[j]? = some t → args[j]? = some v → Value.okWide Tryd.prog W .any base t v)
    (hW : DataW.Whole enc Tryd.prog Tryd.f11.params.toList Rows.plogMendsSpec.vars false W args.toList ds gs before) (hL : laidMetH Tryd.prog Rows.plogMendsRow.laid W) :
    Calls Tryd.prog 11 args W fun e W' => ∃ v, e = .returned v ∧ Rows.plogMendsSpec.post enc Tryd.prog Tryd.f11 false true false false W args v W' := by
  have hT := tabs_of hL
  have hW' := hW
  obtain ⟨p, q, hA0, hV, rfl, hfz, hnd⟩ := hW
  have hA : DataW.TrodAll enc Tryd.prog W 0 (fun _ => true) true Tryd.f11.params.toList args.toList ds p := hA0
  rw [Tryd.params11] at hA hval
  obtain ⟨v0, vs0, d0, ds0, p0, q0, hargs, rfl, rfl, h0, r0⟩ := trodAll_cons hA
  obtain ⟨v1, vs1, d1, ds1, p1, q1, rfl, rfl, rfl, h1, r1⟩ := trodAll_cons r0
  obtain ⟨v2, vs2, d2, ds2, p2, q2, rfl, rfl, rfl, h2, r2⟩ := trodAll_cons r1
  obtain ⟨v3, vs3, d3, ds3, p3, q3, rfl, rfl, rfl, h3, r3⟩ := trodAll_cons r2
  obtain ⟨v4, vs4, d4, ds4, p4, q4, rfl, rfl, rfl, h4, r4⟩ := trodAll_cons r3
  obtain ⟨rfl, rfl, rfl⟩ := trodAll_nil r4
  obtain rfl : args = #[v0, v1, v2, v3, v4] := by cases args; simp_all
  obtain ⟨rfl, rfl⟩ := trodVars_none hV
  obtain ⟨a0, rfl, rfl, rfl, w0⟩ := open_int Tryd.underlying3 (hval 0 3 v0 rfl rfl) h0
  obtain ⟨a1, rfl, rfl, rfl, w1⟩ := open_int Tryd.underlying3 (hval 1 3 v1 rfl rfl) h1
  obtain ⟨a2, rfl, rfl, rfl⟩ := open_bool Tryd.underlying4 (hval 2 4 v2 rfl rfl) h2
  obtain ⟨a3, rfl, rfl, rfl, w3⟩ := open_int Tryd.underlying3 (hval 3 3 v3 rfl rfl) h3
  obtain ⟨a4, rfl, rfl, rfl, w4⟩ := open_int Tryd.underlying84 (hval 4 84 v4 rfl rfl) h4
  clear hA0
  refine (walk a0 a1 a2 a3 a4 W w0 w1 w3 w4 hT).mono fun e W' ⟨he, bel⟩ => ?_
  subst he
  exact ⟨_, rfl, _, _, _, [], _, [], hW', trodAll_mk1 (shut_bool Tryd.underlying4 _), (trodAll_cons_mk (shut_int Tryd.underlying3 w0) (trodAll_cons_mk (shut_int Tryd.underlying3 w1) (trodAll_cons_mk (shut_bool Tryd.underlying4 a2) (trodAll_cons_mk (shut_int Tryd.underlying3 w3) (trodAll_cons_mk (shut_int Tryd.underlying84 w4) trodAll_mk0))))), rfl, bel.frame _, fun h => by cases h⟩

def setTab (l : List Int) : Obj → Obj
  | .cells _ t frozen => .cells (l.map (Value.int .u32)).toArray t frozen
  | o => o
noncomputable def laidWorld (os : Os) : World :=
  { World.holding Tryd.prog os ⟨#[], #[], []⟩ with heap := ((World.holding Tryd.prog os ⟨#[], #[], []⟩).heap.modify 1 (setTab LO)).modify 0 (setTab HI) }
theorem laid_met (os : Os) : laidMet Tryd.prog Rows.plogMendsRow.laid ((laidWorld os).forCall (fun _ _ => 0) ⟨#[], #[.int .i64 0, .int .i64 0, .bool false, .int .i64 0, .int .i64 0], []⟩).memory :=
  laidMet_of_run' 8 (by kernel_rfl) (by kernel_rfl)
theorem reads (os : Os) {H : Type} (enc : TypeId × Value → H) : ∃ places, DataW.whole enc Tryd.prog ((laidWorld os).forCall (fun _ _ => 0) ⟨#[], #[.int .i64 0, .int .i64 0, .bool false, .int .i64 0, .int .i64 0], []⟩).memory Tryd.f11.params.toList Rows.plogMendsSpec.vars false #[Value.int .i64 0, Value.int .i64 0, Value.bool false, Value.int .i64 0, Value.int .i64 0].toList 8 = some ([.lit (.int .i64 0), .lit (.int .i64 0), .lit (.bool false), .lit (.int .i64 0), .lit (.int .i64 0)], [], places) :=
  ⟨[], by kernel_rfl⟩

set_option maxRecDepth 100000 in
theorem lifted (os : Os) (started : os.Started) (H : Type) (enc : TypeId × Value → H) (F : Stop.Interp) :
    ReturnsInHanded {} Tryd.checked os 11 .any ((OpenSpec.ofChange Rows.plogMendsSpec).preRow enc Tryd.prog Tryd.f11 Rows.plogMendsRow.domain false Rows.plogMendsRow.laid) (((OpenSpec.ofChange Rows.plogMendsSpec).at F).post enc Tryd.prog Tryd.f11 false true false false) := by
  obtain ⟨places, hx⟩ := reads os enc
  refine returnsInHanded_of_row (C := Tryd.checked) (s := OpenSpec.ofChange Rows.plogMendsSpec) own started (by kernel_rfl) Tryd.func11
    (witness_row_at (enc := enc) (C := Tryd.checked) false (laidWorld os) #[.int .i64 0, .int .i64 0, .bool false, .int .i64 0, .int .i64 0] rfl (by kernel_rfl) (by kernel_rfl) (by kernel_rfl)
      (OpenSpec.preRow_of_cond 8 hx (by kernel_rfl) (fun k hk => by cases hk) (by kernel_rfl) (laid_met os))) ?_
  intro W base args ds gs before hval hW _ _ _ hL _ _
  exact contract H enc W base args ds gs before hval hW hL

theorem said : Rows.PlogMendsSaid :=
  OpenClaim.holds_of_cond 11 Tryd.f11 rfl rfl rfl rfl rfl rfl rfl ⟨rfl, rfl, rfl, rfl, rfl⟩ rfl rfl rfl rfl rfl (by kernel_rfl) Tryd.func11 (by kernel_rfl)
    (of_decide_eq_true (by kernel_rfl)) (by unfold Func.isWrapper; first | (rw [if_pos (by decide +kernel)]; kernel_rfl) | (rw [if_neg (by decide +kernel)]; exact ⟨rfl, rfl⟩))
    (fun os started H enc _ F => by rw [OpenClaim.pre_eq_preRow]; exact lifted os started H enc F)

theorem plain (f : FuncId) (fn : Func) (hf : Tryd.pinned.checked.prog.funcNamed "orchard/orchardlaw06.PlogMends" = some f) (hfn : Tryd.pinned.checked.prog.funcs[f]? = some fn) :
    false = Tryd.pinned.checked.prog.looks [] ∧ ∀ (j : Nat) t, fn.params[j]? = some t → Tryd.pinned.checked.prog.wantsStandIn t = false := by
  obtain rfl : f = 11 := Option.some.inj ((show Tryd.prog.funcNamed "orchard/orchardlaw06.PlogMends" = some 11 by kernel_rfl).symm.trans hf) |>.symm
  obtain rfl : fn = Tryd.f11 := (Option.some.inj (Tryd.func11.symm.trans hfn)).symm
  refine ⟨by kernel_rfl, fun j t ht => ?_⟩
  rw [Tryd.params11] at ht
  have hm := Array.mem_of_getElem? ht
  simp at hm
  rcases hm with rfl | rfl | rfl | rfl
  · exact (show Tryd.prog.wantsStandIn 3 = false by kernel_rfl)
  · exact (show Tryd.prog.wantsStandIn 4 = false by kernel_rfl)
  · exact (show Tryd.prog.wantsStandIn 3 = false by kernel_rfl)
  · exact (show Tryd.prog.wantsStandIn 84 = false by kernel_rfl)

theorem card : Rows.PlogMendsCardSaid :=
  Claim7.holds_tied_plain_at .later [] _ _ _ _ said (fun _ h => by cases h) (by kernel_rfl) (fun _ h => by cases h) plogMends_row_tie rfl ⟨rfl, rfl⟩ (by kernel_rfl) rfl plain (by kernel_rfl)
end Go.Proofs.YtpkhhecmddpnmaaDoor.plogMends
