/- plog's fits and Open. No conditions beyond those in each statement. plog's functions for a nil log, and Mend of an entry that there is not. No conditions beyond those in each statement. A device's contents in plain words: what slot reads from each block, and what writing, cleaning, flushing make of it; no program. A log on a device in plain words: where its entries lie, what Open finds, what Append, Cut, Drop make of it; no program. A log on a device in plain words: what Open, Append, Cut, Drop, Read make of it; no program. What each write and each Flush keep, the log's functions keep; blocks that no flip has reached. No program. A log in memory and on its device, nothing amiss: what plog's functions do to it. No conditions beyond those in each statement. Open of a log with damaged blocks, and what Scrub and Hurt tell of it. No conditions beyond those in each statement. Law 6's example and its new log. No conditions beyond those in each statement. Law 6's example, and a new log. No conditions beyond those in each statement. -/
import Derived.Test.YtigebaaldikeaaaDoorPlogLd
import Derived.Test.YtigebaaldikeaaaDoorHeadEq
namespace Go.Proofs.YtigebaaldikeaaaDoor
section
open Go.RowKit
set_option linter.unusedVariables false
set_option maxRecDepth 100000

/-- Are there two blocks for each place? -/
def fitsF (m : Nat) (base size : Int) : Bool := decide (0 ≤ base ∧ 1 ≤ size ∧ size ≤ ((m : Int) - base).tdiv 2)
set_option maxHeartbeats 4000000 in
theorem pfits_any {n : Nat} {E : Nat → Prop} {w : World} {B : Nat} {D : Dv} (base size : Int) (hW : DevW n E w B D) (hb : base ≤ (D.bs.length : Int)) :
    Calls Tryd.prog 45 #[.pointer (some ⟨B, 0, none⟩), .int .i64 base, .int .i64 size] w fun e w' => e = .returned (.bool (fitsF D.bs.length base size)) ∧ w = w' := by
  obtain ⟨S, hD, _, _⟩ := hW
  have hm := hD.fits.many
  obtain ⟨Q, hQ⟩ : ∃ Q, fitsF D.bs.length base size = Q := ⟨_, rfl⟩
  have HQ := Lib.hid hQ
  rw [hQ]
  clear hQ
  by_cases h1 : 0 ≤ base
  · by_cases h2 : 1 ≤ size
    · have hS := Lib.hid (fun (W : World) (h : DevAt S W B D) => size_any h)
      have e1 : IntKind.i64.wrap ((D.bs.length : Int) - base) = (D.bs.length : Int) - base := IntWalk.i64_in _ (by omega)
      have e2 : IntKind.i64.wrap (((D.bs.length : Int) - base).tdiv 2) = ((D.bs.length : Int) - base).tdiv 2 := IntWalk.i64_in _ (by rw [Int.tdiv_eq_ediv_of_nonneg (by omega)]; omega)
      obtain ⟨BQ, hBQ⟩ : ∃ BQ : Bool, decide (size ≤ ((D.bs.length : Int) - base).tdiv 2) = BQ := ⟨_, rfl⟩
      have HB : Hid (Q = BQ) := by show Q = BQ; rw [← HQ.out, ← hBQ]; simp [fitsF, h1, h2]
      go_enter Tryd.func45, Tryd.ntmps45
      go_wp2_with (go_at_call 55; refine (hS.out _ hD).mono ?_; rintro e w' ⟨rfl, rfl⟩)
      all_goals go_ret
      all_goals exact ⟨by rw [HB.out]; rfl, rfl⟩
    · have HB : Hid (Q = false) := by show Q = false; rw [← HQ.out]; simp [fitsF, h2]
      have e1 : decide (1 ≤ size) = false := by simpa using h2
      go_enter Tryd.func45, Tryd.ntmps45
      go_wp2_with fail
      go_ret
      exact ⟨by rw [HB.out]; rfl, rfl⟩
  · have HB : Hid (Q = false) := by show Q = false; rw [← HQ.out]; simp [fitsF, h1]
    have e1 : decide (0 ≤ base) = false := by simpa using h1
    go_enter Tryd.func45, Tryd.ntmps45
    go_wp2_with fail
    go_ret
    exact ⟨by rw [HB.out]; rfl, rfl⟩
set_option maxHeartbeats 4000000 in
theorem popen_bad {n : Nat} {E : Nat → Prop} {w : World} {B : Nat} {D : Dv} (base size first : Int) (hW : DevW n E w B D) (hb : base ≤ (D.bs.length : Int)) (h : first < 1 ∨ fitsF D.bs.length base size = false) :
    Calls Tryd.prog 26 #[.pointer (some ⟨B, 0, none⟩), .int .i64 base, .int .i64 size, .int .i64 first] w fun e w' => e = .returned (.tuple #[.pointer none, .int .i64 1]) ∧ w = w' := by
  have HF := Lib.hid (pfits_any base size hW hb)
  by_cases h1 : first < 1
  · go_enter Tryd.func26, Tryd.ntmps26
    go_wp2_with fail
    go_ret2
    exact ⟨rfl, rfl⟩
  · have h2 := h.resolve_left h1
    rw [h2] at HF
    have e1 : decide (first < 1) = false := by simpa using h1
    clear h h2
    go_enter Tryd.func26, Tryd.ntmps26
    go_wp2_with (go_at_call 45; refine HF.out.mono ?_; rintro e w' ⟨rfl, rfl⟩)
    go_ret2
    exact ⟨rfl, rfl⟩
/-- What Open does behind load. -/
noncomputable def Dv.opn1 (D : Dv) (L : Lg) (ms : List Rc) : Int × Dv := if ms.length = 0 then (0, D) else D.wr L ms
noncomputable def Dv.opn (D : Dv) (L : Lg) (c : Nat) (ms : List Rc) : Int × Dv :=
  if (D.opn1 L ms).1 ≠ 0 then D.opn1 L ms else (D.opn1 L ms).2.clean L (idxs (L.first + c) (L.size - c).toNat)
theorem run_mkT (W : World) : (Instr.makeMap 48 none).run Tryd.prog W = .ok (.map (some W.heap.size)) (W.alloc (.map #[] 0)) := rfl
theorem run_mkS (W : World) : (Instr.makeMap 98 none).run Tryd.prog W = .ok (.map (some W.heap.size)) (W.alloc (.map #[] 0)) := rfl
theorem DevW.growOff {n : Nat} {E : Nat → Prop} {w x : World} {B : Nat} {D : Dv} (h : DevW n E w B D) (hs : w.heap.size ≤ x.heap.size) (hk : ∀ j, j < w.heap.size → x.heap[j]? = w.heap[j]?) : DevW n (fun k => E k ∨ (w.heap.size ≤ k ∧ k < x.heap.size)) x B D := by
  obtain ⟨Q, ⟨R, sv, C, hd⟩, hQ, he⟩ := h
  exact ⟨Q, ⟨R, sv, C, hd.keep hs (fun j hj => hk j (hd.lt j hj))⟩, fun k hk' => ⟨(hQ k hk').1, fun e => e.elim (hQ k hk').2 (fun e => by have := hd.lt k hk'; omega)⟩, fun k hk' => hk'.elim (fun e => Nat.lt_of_lt_of_le (he k e) hs) (fun e => e.2)⟩
/-- The new log. -/
theorem open_box {n : Nat} {E : Nat → Prop} {w : World} {B : Nat} {D : Dv} (base first sz : Int) (hW : DevW n E w B D) (hn : n ≤ w.heap.size) (W : World)
    (h : W = ((w.alloc (.map #[] 0)).alloc (.map #[] 0)).alloc (.cells #[.pointer (some ⟨B, 0, none⟩), .int .i64 base, .int .i64 sz, .int .i64 first, .int .i64 0, .map (some w.heap.size), .map (some (w.heap.size + 1))] 100)) :
    W.heap.size = w.heap.size + 3 ∧ Below w.heap.size w W ∧ LogW n (fun k => E k ∨ (w.heap.size ≤ k ∧ k < W.heap.size)) W (w.heap.size + 1 + 1) B w.heap.size (w.heap.size + 1) D ⟨base, sz, first, 0⟩ 0 (fun _ => none) (fun _ => false) := by
  have b1 := (Below.refl w.heap.size w).alloc (Nat.le_refl _) (.map #[] 0)
  have b2 := b1.alloc b1.size (.map #[] 0)
  have b3 := b2.alloc b2.size (.cells #[.pointer (some ⟨B, 0, none⟩), .int .i64 base, .int .i64 sz, .int .i64 first, .int .i64 0, .map (some w.heap.size), .map (some (w.heap.size + 1))] 100)
  have c2 := (Below.refl (w.alloc (.map #[] 0)).heap.size _).alloc (Nat.le_refl _) (.map #[] 0)
  have c3 := (Below.refl ((w.alloc (.map #[] 0)).alloc (.map #[] 0)).heap.size _).alloc (Nat.le_refl _) (.cells #[.pointer (some ⟨B, 0, none⟩), .int .i64 base, .int .i64 sz, .int .i64 first, .int .i64 0, .map (some w.heap.size), .map (some (w.heap.size + 1))] 100)
  have m1 := ((MapI.new w).below c2).below c3
  have m2 := (SetI.new (w.alloc (.map #[] 0))).below c3
  rw [World.size_alloc] at m2
  have hs : W.heap.size = w.heap.size + 3 := by rw [h]; simp
  subst h
  refine ⟨hs, b3, hW.growAll b3, ?_, m1, m2, .inr ⟨by omega, by omega⟩, .inr ⟨by omega, by omega⟩, .inr ⟨by omega, by omega⟩, by omega, by omega, by omega, by omega, by omega, by omega⟩
  have h := heap_alloc_new ((w.alloc (.map #[] 0)).alloc (.map #[] 0)) (.cells #[.pointer (some ⟨B, 0, none⟩), .int .i64 base, .int .i64 sz, .int .i64 first, .int .i64 0, .map (some w.heap.size), .map (some (w.heap.size + 1))] 100)
  rw [World.size_alloc, World.size_alloc] at h
  exact h
def ld0 : Ld := ⟨0, fun _ => none, fun _ => false, []⟩
set_option maxHeartbeats 4000000 in
theorem popen_any {n : Nat} {E : Nat → Prop} {w : World} {B : Nat} {D : Dv} (base first : Int) (sz : Nat) (hW : DevW n E w B D) (hn : n ≤ w.heap.size) (ht : ∀ x, Below n w x → Tabs x) (hw : D.writes ≤ 1072000000)
    (hf : (⟨base, sz, first, 0⟩ : Lg).Fit) (hfit : fitsF D.bs.length base sz = true) (hb : base ≤ (D.bs.length : Int)) (hRT : ∀ i, InR (D.lgread ⟨base, sz, first, 0⟩ i).1.1.term ∧ InR (D.lgread ⟨base, sz, first, 0⟩ i).2.1.1.term)
    (V : Ld) (hV : D.ld ⟨base, sz, first, 0⟩ sz ld0 = (V, 0)) (hcn : V.cnt ≤ sz) (hms : ∀ r ∈ V.ms, 0 ≤ r.index) (hml : V.ms.length ≤ 10000) (V2 : Int × Dv) (hV2 : V2 = D.opn ⟨base, sz, first, V.cnt⟩ V.cnt V.ms) :
    Calls Tryd.prog 26 #[.pointer (some ⟨B, 0, none⟩), .int .i64 base, .int .i64 sz, .int .i64 first] w fun e w' => ∃ b bt bd, e = .returned (.tuple #[.pointer (some ⟨b, 0, none⟩), .int .i64 V2.1]) ∧ LogW n (fun k => E k ∨ k = b ∨ k = bt ∨ k = bd) w' b B bt bd V2.2 ⟨base, sz, first, V.cnt⟩ 10000 V.T V.H ∧ Below n w w' ∧ Kept E w w' ∧ w.heap.size ≤ b := by
  have h1 := hf.first
  have h2 := hf.size
  simp only at h1 h2
  have HFT := Lib.hid (pfits_any base sz hW hb)
  rw [hfit] at HFT
  have HT := Lib.hid ht
  have HF := Lib.hid hf
  have HRT := Lib.hid hRT
  have HV := Lib.hid hV
  have HMS := Lib.hid hms
  have HV2 := Lib.hid hV2
  have e1 : decide (first < 1) = false := by simp; omega
  have hmk1 := run_mkT
  have hmk2 := run_mkS
  clear ht hf hfit hRT hV hms hV2
  go_enter Tryd.func26, Tryd.ntmps26
  go_wp2_with (go_at_call 45; refine HFT.out.mono ?_; rintro e w' ⟨rfl, rfl⟩)
  obtain ⟨w1, hw1⟩ : ∃ W, W = ((w.alloc (.map #[] 0)).alloc (.map #[] 0)).alloc (.cells #[.pointer (some ⟨B, 0, none⟩), .int .i64 base, .int .i64 sz, .int .i64 first, .int .i64 0, .map (some w.heap.size), .map (some (w.heap.size + 1))] 100) := ⟨_, rfl⟩
  obtain ⟨hs1, b1, LW1⟩ := open_box base first sz hW hn w1 hw1
  have HLD := Lib.hid (pload_any sz 0 LW1 (Nat.le_trans hn b1.size) (fun x hx => HT.out x ((b1.mono hn).trans hx)) hw HF.out (by decide) rfl rfl HRT.out (V, 0) HV.out.symm)
  rw [← hw1]
  clear hw1 hmk1 hmk2 LW1 HV HRT
  refine HLD.out.mono ?_
  rintro e w2 ⟨v, rfl, hrow, LW1, hb2, hk2, hO⟩
  have hrow := hrow rfl
  have hs2 := hb2.size
  have hold : ∀ j, j < w.heap.size → w2.heap[j]? = w.heap[j]? := fun j hj => (hO.same j (by omega) (by omega) (by omega) (by omega)).trans (b1.block j hj)
  obtain ⟨E2, hE2⟩ : ∃ E2 : Nat → Prop, E2 = fun k => E k ∨ (w.heap.size ≤ k ∧ k < w2.heap.size) := ⟨_, rfl⟩
  have hse : ∀ k, E2 k ↔ (E k ∨ (w.heap.size ≤ k ∧ k < w2.heap.size)) := fun k => by rw [hE2]
  have X2 := hW.growOff (show w.heap.size ≤ w2.heap.size by omega) hold
  rw [← hE2] at X2
  have LW2 : LogW n E2 w2 (w.heap.size + 1 + 1) B w.heap.size (w.heap.size + 1) D ⟨base, sz, first, V.cnt⟩ 10000 V.T V.H :=
    ⟨X2, LW1.log, LW1.terms.mono (by omega), LW1.hurts.mono (by omega), (hse _).2 (.inr ⟨by omega, by omega⟩), (hse _).2 (.inr ⟨by omega, by omega⟩), (hse _).2 (.inr ⟨by omega, by omega⟩), LW1.nb, LW1.nt, LW1.nd, LW1.bt_ne, LW1.bd_ne, LW1.td_ne⟩
  have B2 : Below n w w2 := (b1.mono hn).trans hb2
  have HK2 : Hid (Kept E w w2) := fun j hj => hold j (hW.lt j hj)
  have hv := (hrow.recs (show V.ms.length ≤ 100000 by omega)).wide (F := E2) (fun j hj => (hse _).2 (.inr ⟨by have := b1.size; omega, hj.2⟩))
  have HFIN := Lib.hid (fun (x : World) (D' : Dv) (hX : DevW n E2 x B D') (hB : Below n w x) (hK : Kept E2 w2 x) => show LogW n (fun k => E k ∨ k = w.heap.size + 1 + 1 ∨ k = w.heap.size ∨ k = w.heap.size + 1) x (w.heap.size + 1 + 1) B w.heap.size (w.heap.size + 1) D' ⟨base, sz, first, V.cnt⟩ 10000 V.T V.H ∧ Below n w x ∧ Kept E w x ∧ w.heap.size ≤ w.heap.size + 1 + 1 from
    ⟨(LW2.turn hX hK).less (fun j hj => (hse _).2 (hj.elim .inl (fun e => .inr (by omega)))) (.inr (.inl rfl)) (.inr (.inr (.inl rfl))) (.inr (.inr (.inr rfl))), hB, HK2.out.trans (hK.mono (fun j hj => (hse _).2 (.inl hj))), by omega⟩)
  have HFT1 := Lib.hid (show (⟨base, sz, first, V.cnt⟩ : Lg).Fit from ⟨HF.out.size, HF.out.base, HF.out.first, ⟨show (0 : Int) ≤ (V.cnt : Int) by omega, show (V.cnt : Int) ≤ (sz : Int) by omega⟩⟩)
  obtain ⟨c, hc⟩ := Int.eq_ofNat_of_zero_le (show 0 ≤ (sz : Int) - (V.cnt : Int) by omega)
  have hcn2 : ((sz : Int) - (V.cnt : Int)).toNat = c := by omega
  have e3 : IntKind.i64.wrap (first + (V.cnt : Int)) = first + (V.cnt : Int) := IntWalk.i64_in _ (by omega)
  have e4 : IntKind.i64.wrap ((sz : Int) - (V.cnt : Int)) = (c : Int) := (IntWalk.i64_in _ (by omega)).trans hc
  have HC := Lib.hid (show c ≤ 4096 ∧ 0 ≤ first + (V.cnt : Int) ∧ first + (V.cnt : Int) ≤ 4611686018427387904 by omega)
  obtain ⟨a, cap, rfl, hlen, hg⟩ := id hv
  have HV3 : Hid (V2 = if (D.opn1 ⟨base, sz, first, V.cnt⟩ V.ms).1 ≠ 0 then D.opn1 ⟨base, sz, first, V.cnt⟩ V.ms else (D.opn1 ⟨base, sz, first, V.cnt⟩ V.ms).2.clean ⟨base, sz, first, V.cnt⟩ (idxs (first + (V.cnt : Int)) c)) := by
    show V2 = _
    rw [HV2.out, ← hcn2]
    rfl
  clear hg hlen hrow hE2 hold hO hk2 LW1 HV2 HLD hc hcn2
  by_cases hm : V.ms.length = 0
  · have HVE : Hid (V2 = D.clean ⟨base, sz, first, V.cnt⟩ (idxs (first + (V.cnt : Int)) c)) := by
      show V2 = _
      rw [HV3.out, show D.opn1 ⟨base, sz, first, V.cnt⟩ V.ms = (0, D) by unfold Dv.opn1; rw [if_pos hm], if_neg (by simp)]
    have LW3 := LW2
    have B3 := B2
    have K3 := Kept.refl E2 w2
    have HD3 := Lib.hid (show D.writes ≤ 1073000000 by omega)
    have ez : ((V.ms.length : Nat) : Int) = 0 := by omega
    have hw2 : D.writes ≤ 1073000000 := HD3.out
    have HR := Lib.hid (fun (W : World) (hb : Below w2.heap.size w2 W) => preach_any (LW3.log.below hb) (show 0 ≤ (sz : Int) ∧ (sz : Int) ≤ 4611686018427387 by omega) (show 0 < first ∧ first ≤ 4611686018427387904 by omega))
    have HCL := Lib.hid (fun (W : World) (hb : Below w2.heap.size w2 W) => pclean_any (first + (V.cnt : Int)) c (LW3.dev.below hb) (LW3.log.below hb) LW3.eb (Nat.le_trans hn (Nat.le_trans B3.size hb.size)) (fun x hx => HT.out x ((B3.trans (hb.mono (Nat.le_trans hn B3.size))).trans hx)) hw2 HFT1.out HC.out.2 HC.out.1)
    rw [← HVE.out] at HCL
    have HEB := LW3.eb
    have HLT3 := Lib.hid LW3.dev.lt
    have g4 := LW3.log.cells.1.2.2.2.2.1
    simp only at g4
    have BD := (Below.refl w2.heap.size w2).drew
    have HL3 := Lib.hid LW3.log
    clear LW3 hw2
    go_wp2_with fail
    go_cut [8, 9] (fun p e wx => p = .pointer (some ⟨w.heap.size + 1 + 1, 0, none⟩) ∧ e = .int .i64 V2.1 ∧ DevW n E2 wx B V2.2 ∧ Below n w2 wx ∧ Kept E2 w2 wx)
    case first =>
      go_region_held3 (fun w' => w'.cell? ⟨w.heap.size + 1 + 1, 4, none⟩ = some (.int .i64 V.cnt)) (first | (with_reducible assumption) | go_keep)
        (first
          | (go_at_call 49; refine (HR.out _ BD).mono ?_; rintro e w4 ⟨rfl, hb4⟩; have B4 := BD.trans (hb4.mono BD.size); have q4 := (HL3.out.below B4).cells.1.2.2.2.2.1; simp only at q4)
          | (go_at_call 48; refine (HCL.out _ B4).mono ?_; rintro e w5 ⟨rfl, X5, hb5, hk5⟩; have B5 := (B4.mono (Nat.le_trans hn B3.size)).trans hb5; have K5 := (Kept.of_below HLT3.out B4).trans hk5; have q5 := (HL3.out.keep K5 HEB).cells.1.2.2.2.2.1; simp only at q5))
      all_goals (go_wp2_with fail; go_meet)
      all_goals exact ⟨rfl, rfl, by with_reducible assumption, by with_reducible assumption, by with_reducible assumption⟩
    case rest =>
      obtain ⟨rfl, rfl, X6, B6, K6⟩ := hcut
      go_wp2_with fail
      go_ret2
      exact ⟨_, _, _, rfl, HFIN.out _ _ X6 (B3.trans B6) (K3.trans K6)⟩
  · have hpos : 0 < (V.ms.length : Int) := by omega
    have HWR := Lib.hid (pwrite_any _ V.ms LW2.dev LW2.log LW2.eb hv (Nat.le_trans hn B2.size) (fun x hx => HT.out x (B2.trans hx)) (by omega) HFT1.out HMS.out)
    obtain ⟨V3, hV3⟩ : ∃ V3, V3 = D.wr ⟨base, sz, first, V.cnt⟩ V.ms := ⟨_, rfl⟩
    have HO1 : Hid (D.opn1 ⟨base, sz, first, V.cnt⟩ V.ms = V3) := by show _ = V3; unfold Dv.opn1; rw [if_neg hm, hV3]
    have HD3 : Hid (V3.2.writes ≤ 1073000000) := by show _ ≤ _; rw [hV3]; have := wr_writes ⟨base, sz, first, V.cnt⟩ V.ms D; omega
    rw [← hV3] at HWR
    clear hV3
    go_wp2_with fail
    refine HWR.out.mono ?_
    rintro e w3 ⟨rfl, X3, hb3, hk3⟩
    have LW3 := LW2.turn X3 hk3
    have B3 := B2.trans hb3
    have K3 := hk3
    clear X3 hb3 hk3 HWR
    by_cases hz : V3.1 = 0
    · have ez : (V3.1 == 0) = true := by simpa using hz
      have HVE : Hid (V2 = V3.2.clean ⟨base, sz, first, V.cnt⟩ (idxs (first + (V.cnt : Int)) c)) := by
        show V2 = _
        rw [HV3.out, HO1.out, if_neg (by simp [hz])]
      have hw3 : V3.2.writes ≤ 1073000000 := HD3.out
      have HR := Lib.hid (fun (W : World) (hb : Below w3.heap.size w3 W) => preach_any (LW3.log.below hb) (show 0 ≤ (sz : Int) ∧ (sz : Int) ≤ 4611686018427387 by omega) (show 0 < first ∧ first ≤ 4611686018427387904 by omega))
      have HCL := Lib.hid (fun (W : World) (hb : Below w3.heap.size w3 W) => pclean_any (first + (V.cnt : Int)) c (LW3.dev.below hb) (LW3.log.below hb) LW3.eb (Nat.le_trans hn (Nat.le_trans B3.size hb.size)) (fun x hx => HT.out x ((B3.trans (hb.mono (Nat.le_trans hn B3.size))).trans hx)) hw3 HFT1.out HC.out.2 HC.out.1)
      rw [← HVE.out] at HCL
      have HEB := LW3.eb
      have HLT3 := Lib.hid LW3.dev.lt
      have g4 := LW3.log.cells.1.2.2.2.2.1
      simp only at g4
      have BD := (Below.refl w3.heap.size w3).drew
      have HL3 := Lib.hid LW3.log
      clear LW3 hw3
      go_wp2_with fail
      go_cut [8, 9] (fun p e wx => p = .pointer (some ⟨w.heap.size + 1 + 1, 0, none⟩) ∧ e = .int .i64 V2.1 ∧ DevW n E2 wx B V2.2 ∧ Below n w3 wx ∧ Kept E2 w3 wx)
      case first =>
        go_region_held3 (fun w' => w'.cell? ⟨w.heap.size + 1 + 1, 4, none⟩ = some (.int .i64 V.cnt)) (first | (with_reducible assumption) | go_keep)
          (first
            | (go_at_call 49; refine (HR.out _ BD).mono ?_; rintro e w4 ⟨rfl, hb4⟩; have B4 := BD.trans (hb4.mono BD.size); have q4 := (HL3.out.below B4).cells.1.2.2.2.2.1; simp only at q4)
            | (go_at_call 48; refine (HCL.out _ B4).mono ?_; rintro e w5 ⟨rfl, X5, hb5, hk5⟩; have B5 := (B4.mono (Nat.le_trans hn B3.size)).trans hb5; have K5 := (Kept.of_below HLT3.out B4).trans hk5; have q5 := (HL3.out.keep K5 HEB).cells.1.2.2.2.2.1; simp only at q5))
        all_goals (go_wp2_with fail; go_meet)
        all_goals exact ⟨rfl, rfl, by with_reducible assumption, by with_reducible assumption, by with_reducible assumption⟩
      case rest =>
        obtain ⟨rfl, rfl, X6, B6, K6⟩ := hcut
        go_wp2_with fail
        go_ret2
        exact ⟨_, _, _, rfl, HFIN.out _ _ X6 (B3.trans B6) (K3.trans K6)⟩
    · have ez : (V3.1 == 0) = false := by simpa using hz
      have HVE : Hid (V2 = V3) := by show V2 = _; rw [HV3.out, HO1.out, if_pos hz]
      go_wp2_with fail
      go_ret2
      exact ⟨_, _, _, by rw [HVE.out]; rfl, by rw [HVE.out]; exact HFIN.out _ _ LW3.dev B3 K3⟩
end
section
open Go.RowKit
set_option linter.unusedVariables false
set_option maxRecDepth 100000
set_option maxHeartbeats 4000000 in
theorem pget_nil (i : Int) (w : World) : Calls Tryd.prog 24 #[.pointer none, .int .i64 i] w fun e w' => e = .returned (lgetV (en0, 0)) ∧ Below w.heap.size w w' := by
  have HH := Lib.hid (fun (W : World) => phas_nil i W)
  have b0 := (Below.refl _ w).alloc (Nat.le_refl _) (.cells #[.int .i64 0, .int .i64 0, .string ⟨#[]⟩] 60)
  have n0 := EnB.new w en0
  go_enter Tryd.func24, Tryd.ntmps24
  go_wp2_with fail
  refine (HH.out _).mono ?_
  rintro e w1 ⟨rfl, hb1⟩
  have N1 := n0.below hb1
  have B1 := b0.trans (hb1.mono b0.size)
  obtain ⟨⟨c0, c1, c2⟩, f0, f1, f2⟩ := N1.cells
  go_wp2_with fail
  refine gret _ (setEn w1 w.heap.size en0) w.heap.size en0 0 _ rfl rfl rfl (N1.set en0) ⟨rfl, below_en B1 (Nat.le_refl _) en0⟩
set_option maxHeartbeats 4000000 in
theorem pappend_nil (v : Value) (w : World) : Calls Tryd.prog 37 #[.pointer none, v] w fun e w' => e = .returned (.int .i64 1) ∧ w = w' := by
  go_enter Tryd.func37, Tryd.ntmps37
  go_wp2_with fail
  go_ret
  exact ⟨rfl, rfl⟩
set_option maxHeartbeats 4000000 in
theorem pcut_nil (i : Int) (w : World) : Calls Tryd.prog 39 #[.pointer none, .int .i64 i] w fun e w' => e = .returned (.int .i64 1) ∧ Below w.heap.size w w' := by
  have HH := Lib.hid (fun (W : World) => phasNext_nil i W)
  go_enter Tryd.func39, Tryd.ntmps39
  go_wp2_with fail
  refine (HH.out _).mono ?_
  rintro e w1 ⟨rfl, hb1⟩
  go_wp2_with fail
  go_ret
  exact ⟨rfl, hb1⟩
set_option maxHeartbeats 4000000 in
theorem pdrop_nil (i : Int) (w : World) : Calls Tryd.prog 40 #[.pointer none, .int .i64 i] w fun e w' => e = .returned (.int .i64 1) ∧ Below w.heap.size w w' := by
  have HH := Lib.hid (fun (W : World) => phasNext_nil i W)
  go_enter Tryd.func40, Tryd.ntmps40
  go_wp2_with fail
  refine (HH.out _).mono ?_
  rintro e w1 ⟨rfl, hb1⟩
  go_wp2_with fail
  go_ret
  exact ⟨rfl, hb1⟩
set_option maxHeartbeats 4000000 in
theorem pmend_nil (x : En) (w : World) : Calls Tryd.prog 28 #[.pointer none, enV x] w fun e w' => e = .returned (.int .i64 1) ∧ Below w.heap.size w w' := by
  have HH := Lib.hid (fun (W : World) => phas_nil x.index W)
  have n0 := EnB.new w x
  have b0 := (Below.refl _ w).alloc (Nat.le_refl _) (.cells #[.int .i64 x.index, .int .i64 x.term, .string x.data] 60)
  obtain ⟨⟨c0, c1, c2⟩, _⟩ := n0.cells
  unfold enV
  go_enter Tryd.func28, Tryd.ntmps28
  go_wp2_with fail
  refine (HH.out _).mono ?_
  rintro e w1 ⟨rfl, hb1⟩
  go_wp2_with fail
  go_ret
  exact ⟨rfl, b0.trans (hb1.mono b0.size)⟩
set_option maxHeartbeats 4000000 in
theorem pmend_bad {w : World} {b B bt bd : Nat} {L : Lg} (x : En) (h : LogB w b B bt bd L) (hf : 0 ≤ L.first) (hi : x.index ≤ 9223372036854775807) (hh : L.has x.index = false) :
    Calls Tryd.prog 28 #[.pointer (some ⟨b, 0, none⟩), enV x] w fun e w' => e = .returned (.int .i64 1) ∧ Below w.heap.size w w' := by
  have n0 := EnB.new w x
  have b0 := (Below.refl _ w).alloc (Nat.le_refl _) (.cells #[.int .i64 x.index, .int .i64 x.term, .string x.data] 60)
  have HH := Lib.hid (phas_any x.index (h.below b0) hf hi)
  rw [hh] at HH
  obtain ⟨⟨c0, c1, c2⟩, _⟩ := n0.cells
  unfold enV
  clear h
  go_enter Tryd.func28, Tryd.ntmps28
  go_wp2_with fail
  refine HH.out.mono ?_
  rintro e w1 ⟨rfl, hb1⟩
  go_wp2_with fail
  go_ret
  exact ⟨rfl, b0.trans (hb1.mono b0.size)⟩
end
section
set_option linter.unusedVariables false
set_option maxRecDepth 100000

/-- Power, and no fall to come. -/
structure Live (D : Dv) : Prop where
  down : D.down = false
  fall : D.falling = false
/-- .. and nothing that is not durable. -/
structure Calm (D : Dv) : Prop extends Live D where
  pend : ∀ b ∈ D.bs, b.pending = []
  writes : D.writes = 0
/-- What slot reads from block k. -/
def cont (D : Dv) (k : Nat) : Rc × Int := rd (D.bs[k]?.getD blk0)
abbrev Ct := Nat → Rc × Int
def put2 (C : Ct) (k : Nat) (v : Rc × Int) : Ct := fun j => if j = k then v else C j
theorem put2_same (C : Ct) (k : Nat) (v : Rc × Int) : put2 C k v k = v := by unfold put2; rw [if_pos rfl]
theorem put2_other {C : Ct} {k j : Nat} {v : Rc × Int} (h : j ≠ k) : put2 C k v j = C j := by unfold put2; rw [if_neg h]
section
variable {D : Dv} {k : Nat}
theorem Live.up (h : Live D) : D.up = true := by unfold Dv.up; simp [h.down, h.fall]
theorem Live.op (h : Live D) : D.op = D := by unfold Dv.op; simp [h.down, h.fall]
theorem at_lt (hk : k < D.bs.length) : D.bs[k]? = some (D.bs[k]?.getD blk0) := by rw [List.getElem?_eq_getElem hk]; rfl
theorem sread_cont (h : Live D) (hk : k < D.bs.length) : D.sread (k : Int) = ((cont D k).1, (cont D k).2, 0) := by
  have hb := at_lt hk
  unfold cont
  generalize D.bs[k]?.getD blk0 = b at hb
  cases hl : b.lost with
  | true => rw [sread_lost k h.down hb hl, rd_lost hl]
  | false => rw [sread_of k h.down hb hl]; unfold rd; rw [if_neg (by simp [hl])]
theorem rd_write (b : Blk) (n : Nat) (s : ByteArray) : rd (b.write n s) = getF s := by
  unfold rd
  rw [if_neg (by simp [Blk.write]), write_contents]
theorem rd_flush (b : Blk) : rd b.flush = rd b := by
  unfold Blk.flush
  split
  · rfl
  · unfold rd
    rw [contents_nil (b := ⟨b.contents, false, b.lost, []⟩) rfl]
theorem rd_lose (b : Blk) : rd b.lose = (rc0, 2) := rd_lost rfl
theorem cont_set {bs : List Blk} {n t : Nat} {f d : Bool} {b : Blk} (hk : k < bs.length) : cont ⟨bs.set k b, n, f, t, d⟩ = put2 (fun j => rd (bs[j]?.getD blk0)) k (rd b) := by
  funext j
  unfold cont put2
  by_cases h : j = k
  · subst h; rw [if_pos rfl]; simp [hk]
  · rw [if_neg h]; simp only []; rw [List.getElem?_set_ne (fun e => h e.symm)]
theorem swrite_cont (h : Live D) {r : Rc} (ho : r.Ok) (hk : k < D.bs.length) : ∃ D', D.swrite (k : Int) r = (0, D') ∧ Live D' ∧ D'.bs.length = D.bs.length ∧ D'.writes = D.writes + 1 ∧ cont D' = put2 (cont D) k (r, 1) := by
  refine ⟨_, swrite_of k ho h.up (at_lt hk), ⟨by rw [h.op]; exact h.down, by rw [h.op]; exact h.fall⟩, by simp, rfl, ?_⟩
  rw [cont_set hk, rd_write, get_put ho]
  rfl
theorem write_cont (h : Live D) (hk : k < D.bs.length) : ∃ D', D.write (k : Int) ⟨#[]⟩ = (0, D') ∧ Live D' ∧ D'.bs.length = D.bs.length ∧ D'.writes = D.writes + 1 ∧ cont D' = put2 (cont D) k (rc0, 0) := by
  refine ⟨_, write_of k ⟨#[]⟩ h.up (at_lt hk) (by decide), ⟨by rw [h.op]; exact h.down, by rw [h.op]; exact h.fall⟩, by simp, rfl, ?_⟩
  rw [cont_set hk, rd_write]
  rfl
theorem flush_cont (h : Live D) : ∃ D', D.flush = (0, D') ∧ Calm D' ∧ D'.bs.length = D.bs.length ∧ cont D' = cont D := by
  refine ⟨D.flushed, by unfold Dv.flush; rw [if_pos h.up, h.op], ⟨⟨h.down, h.fall⟩, fun b hb => ?_, rfl⟩, by simp [Dv.flushed], ?_⟩
  · simp only [Dv.flushed, List.mem_map] at hb
    obtain ⟨d, _, rfl⟩ := hb
    exact flush_pending d
  · funext j
    unfold cont Dv.flushed
    simp only [List.getElem?_map]
    cases D.bs[j]? with
    | none => rfl
    | some b => exact rd_flush b
theorem on_cont (f : Blk → Blk) (hk : k < D.bs.length) : (D.onB (k : Int) f).bs.length = D.bs.length ∧ (D.onB (k : Int) f).writes = D.writes ∧ (D.onB (k : Int) f).down = D.down ∧ (D.onB (k : Int) f).falling = D.falling ∧ cont (D.onB (k : Int) f) = put2 (cont D) k (rd (f (D.bs[k]?.getD blk0))) := by
  rw [onB_at rfl (at_lt hk)]
  refine ⟨by simp, rfl, rfl, rfl, ?_⟩
  rw [cont_set hk]
  rfl
theorem lose_cont (h : Calm D) (hk : k < D.bs.length) : Calm (D.onB (k : Int) Blk.lose) ∧ (D.onB (k : Int) Blk.lose).bs.length = D.bs.length ∧ cont (D.onB (k : Int) Blk.lose) = put2 (cont D) k (rc0, 2) := by
  obtain ⟨h1, h2, h3, h4, h5⟩ := on_cont (D := D) Blk.lose hk
  refine ⟨⟨⟨h3.trans h.down, h4.trans h.fall⟩, fun b hb => ?_, h2.trans h.writes⟩, h1, by rw [h5, rd_lose]⟩
  rw [onB_at rfl (at_lt hk)] at hb
  rcases List.mem_or_eq_of_mem_set hb with hb | rfl
  · exact h.pend b hb
  · show (D.bs[k]?.getD blk0).pending = []
    exact h.pend _ (List.mem_of_getElem? (at_lt hk))
theorem new_calm (m : Nat) (hm : m ≤ 4096) : Calm (Dv.new (m : Int)) ∧ (Dv.new (m : Int)).bs.length = m ∧ cont (Dv.new (m : Int)) = fun _ => (rc0, 0) := by
  have e : howMany (m : Int) = m := by unfold howMany; omega
  unfold Dv.new Dv.newN
  rw [e]
  refine ⟨⟨⟨rfl, rfl⟩, fun b hb => by rw [List.eq_of_mem_replicate hb]; rfl, rfl⟩, by simp, ?_⟩
  funext j
  unfold cont
  rw [← rd_new]
  congr 1
  simp only [List.getElem?_replicate]
  split <;> rfl
theorem blk_crash_calm {b : Blk} (h : b.pending = []) (zs : List Int) : b.crash zs = b := by
  obtain ⟨d, s, l, p⟩ := b
  obtain rfl : p = [] := h
  rfl
theorem crash_calm (h : Calm D) (zs : List Int) : Calm (D.crash zs) ∧ (D.crash zs).bs = D.bs ∧ cont (D.crash zs) = cont D := by
  have e : (D.crash zs).bs = D.bs := by
    unfold Dv.crash
    simp only []
    rw [List.map_congr_left (g := id) (fun b hb => blk_crash_calm (h.pend b hb) zs), List.map_id]
  exact ⟨⟨⟨rfl, rfl⟩, by rw [e]; exact h.pend, rfl⟩, e, by funext j; unfold cont; rw [e]⟩
end
/-- The block of a record. -/
def Lg.at (L : Lg) (kd i : Int) : Nat := (L.blk kd i).toNat
/-- The contents when records have been written. -/
def wrC (L : Lg) (rs : List Rc) (C : Ct) : Ct := rs.foldl (fun C r => put2 C (L.at r.kind r.index) (r, 1)) C
theorem wrC_out (L : Lg) (k : Nat) : ∀ (rs : List Rc) (C : Ct), (∀ r ∈ rs, L.at r.kind r.index ≠ k) → wrC L rs C k = C k
  | [], C, h => rfl
  | r :: l, C, h => by
    show wrC L l (put2 C _ _) k = _
    rw [wrC_out L k l _ (fun s hs => h s (List.mem_cons_of_mem _ hs)), put2_other (fun e => h r (by simp) e.symm)]
theorem wrC_in (L : Lg) (z : Rc) : ∀ (rs : List Rc) (C : Ct), z ∈ rs → (∀ r ∈ rs, L.at r.kind r.index = L.at z.kind z.index → r = z) → wrC L rs C (L.at z.kind z.index) = (z, 1)
  | [], C, h, _ => by cases h
  | r :: l, C, h, hu => by
    show wrC L l (put2 C _ _) _ = _
    by_cases hz : z ∈ l
    · exact wrC_in L z l _ hz (fun s hs => hu s (List.mem_cons_of_mem _ hs))
    · obtain rfl : z = r := by simpa [hz] using h
      rw [wrC_out L _ l _ (fun s hs e => hz (by rw [← hu s (List.mem_cons_of_mem _ hs) e]; exact hs)), put2_same]
theorem wr_cont (L : Lg) : ∀ (rs : List Rc) (D : Dv), Live D → (∀ r ∈ rs, r.Ok ∧ 0 ≤ L.blk r.kind r.index ∧ L.blk r.kind r.index < (D.bs.length : Int)) → ∃ D', D.wr L rs = (0, D') ∧ Calm D' ∧ D'.bs.length = D.bs.length ∧ cont D' = wrC L rs (cont D)
  | [], D, h, _ => by rw [wr_nil]; exact flush_cont h
  | r :: l, D, h, hr => by
    obtain ⟨ho, h0, h1⟩ := hr r (by simp)
    obtain ⟨k, hk⟩ := Int.eq_ofNat_of_zero_le h0
    have hkl : k < D.bs.length := by omega
    obtain ⟨D1, e1, L1, n1, _, c1⟩ := swrite_cont h ho hkl
    have e2 : D.swrite (L.blk r.kind r.index) r = (0, D1) := by rw [hk]; exact e1
    obtain ⟨D2, e3, C2, n2, c2⟩ := wr_cont L l D1 L1 (fun s hs => by rw [n1]; exact hr s (List.mem_cons_of_mem _ hs))
    refine ⟨D2, ?_, C2, n2.trans n1, ?_⟩
    · rw [wr_go (by rw [e2]), e2]; exact e3
    · rw [c2, c1]
      show _ = wrC L l (put2 _ _ _)
      rw [show L.at r.kind r.index = k by unfold Lg.at; rw [hk]; rfl]
/-- One place cleaned. -/
def cl1 (v : Rc × Int) (i : Int) : Rc × Int := if v.2 ≠ 2 ∧ v.1.index < i then v else (rc0, 0)
theorem cl1_keep {v : Rc × Int} {i : Int} (h : v.2 ≠ 2 ∧ v.1.index < i) : cl1 v i = v := by unfold cl1; rw [if_pos h]
theorem cl1_two (v : Rc × Int) (i : Int) : cl1 (cl1 v i) i = cl1 v i := by
  by_cases h : v.2 ≠ 2 ∧ v.1.index < i
  · rw [cl1_keep h, cl1_keep h]
  · have e : cl1 v i = (rc0, 0) := by unfold cl1; rw [if_neg h]
    rw [e]
    unfold cl1
    split <;> rfl
/-- The contents when places have been cleaned. -/
def clC (L : Lg) (kd : Int) (is : List Int) (C : Ct) : Ct := is.foldl (fun C i => put2 C (L.at kd i) (cl1 (C (L.at kd i)) i)) C
theorem put2_id (C : Ct) (k : Nat) : put2 C k (C k) = C := by funext j; unfold put2; split <;> (try rfl); rename_i h; rw [h]
theorem clC_out (L : Lg) (kd : Int) (k : Nat) : ∀ (is : List Int) (C : Ct), (∀ i ∈ is, L.at kd i ≠ k) → clC L kd is C k = C k
  | [], C, h => rfl
  | i :: l, C, h => by
    show clC L kd l (put2 C _ _) k = _
    rw [clC_out L kd k l _ (fun s hs => h s (List.mem_cons_of_mem _ hs)), put2_other (fun e => h i (by simp) e.symm)]
theorem clC_in (L : Lg) (kd z : Int) : ∀ (is : List Int) (C : Ct), z ∈ is → (∀ i ∈ is, L.at kd i = L.at kd z → i = z) → clC L kd is C (L.at kd z) = cl1 (C (L.at kd z)) z
  | [], C, h, _ => by cases h
  | i :: l, C, h, hu => by
    show clC L kd l (put2 C _ _) _ = _
    by_cases hi : i = z
    · subst hi
      by_cases hz : i ∈ l
      · rw [clC_in L kd i l _ hz (fun s hs => hu s (List.mem_cons_of_mem _ hs)), put2_same, cl1_two]
      · rw [clC_out L kd _ l _ (fun s hs e => hz (by rw [← hu s (List.mem_cons_of_mem _ hs) e]; exact hs)), put2_same]
    · have hz : z ∈ l := by rcases List.mem_cons.1 h with e | e; exact absurd e.symm hi; exact e
      rw [clC_in L kd z l _ hz (fun s hs => hu s (List.mem_cons_of_mem _ hs)), put2_other (fun e => hi (hu i (by simp) e.symm))]
theorem clC_noop (L : Lg) (kd : Int) : ∀ (is : List Int) (C : Ct), (∀ i ∈ is, (C (L.at kd i)).2 ≠ 2 ∧ (C (L.at kd i)).1.index < i) → clC L kd is C = C
  | [], C, h => rfl
  | i :: l, C, h => by
    show clC L kd l (put2 C _ _) = _
    rw [cl1_keep (h i (by simp)), put2_id]
    exact clC_noop L kd l C (fun s hs => h s (List.mem_cons_of_mem _ hs))
theorem pass_cont (L : Lg) (kd : Int) : ∀ (is : List Int) (D : Dv) (wt : Bool), Live D → (∀ i ∈ is, 0 ≤ L.blk kd i ∧ L.blk kd i < (D.bs.length : Int)) →
    ∃ D' wt', Dv.pass L kd is D wt = (0, D', wt') ∧ Live D' ∧ D'.bs.length = D.bs.length ∧ cont D' = clC L kd is (cont D) ∧ (wt' = true ∨ (wt' = wt ∧ D' = D))
  | [], D, wt, h, _ => ⟨D, wt, rfl, h, rfl, rfl, .inr ⟨rfl, rfl⟩⟩
  | i :: l, D, wt, h, hr => by
    obtain ⟨h0, h1⟩ := hr i (by simp)
    obtain ⟨k, hk⟩ := Int.eq_ofNat_of_zero_le h0
    have hkl : k < D.bs.length := by omega
    have hat : L.at kd i = k := by unfold Lg.at; rw [hk]; rfl
    have es : D.sread (L.blk kd i) = ((cont D k).1, (cont D k).2, 0) := by rw [hk]; exact sread_cont h hkl
    by_cases hc : (cont D k).2 ≠ 2 ∧ (cont D k).1.index < i
    · obtain ⟨D', wt', e, r1, r2, r3, r4⟩ := pass_cont L kd l D wt h (fun s hs => hr s (List.mem_cons_of_mem _ hs))
      refine ⟨D', wt', ?_, r1, r2, ?_, r4⟩
      · rw [pass_skip (by rw [es]) (by rw [es]; exact hc.1) (by rw [es]; exact hc.2)]; exact e
      · rw [r3]
        show _ = clC L kd l (put2 _ _ _)
        rw [hat, cl1_keep hc, put2_id]
    · obtain ⟨D1, e1, L1, n1, _, c1⟩ := write_cont h hkl
      have ew : D.write (L.blk kd i) ⟨#[]⟩ = (0, D1) := by rw [hk]; exact e1
      obtain ⟨D', wt', e, r1, r2, r3, r4⟩ := pass_cont L kd l D1 true L1 (fun s hs => by rw [n1]; exact hr s (List.mem_cons_of_mem _ hs))
      refine ⟨D', wt', ?_, r1, r2.trans n1, ?_, .inl (r4.elim id (fun h => h.1))⟩
      · rw [pass_go (by rw [es]) (by rw [es]; exact hc) (by rw [ew]), ew]; exact e
      · rw [r3, c1]
        show _ = clC L kd l (put2 _ _ _)
        rw [hat]
        unfold cl1
        rw [if_neg hc]
theorem clean1_cont (L : Lg) (kd : Int) (is : List Int) {D : Dv} (h : Calm D) (hr : ∀ i ∈ is, 0 ≤ L.blk kd i ∧ L.blk kd i < (D.bs.length : Int)) :
    ∃ D', D.clean1 L kd is = (0, D') ∧ Calm D' ∧ D'.bs.length = D.bs.length ∧ cont D' = clC L kd is (cont D) := by
  obtain ⟨D1, wt, e, r1, r2, r3, r4⟩ := pass_cont L kd is D false h.toLive hr
  unfold Dv.clean1
  rw [e]
  cases wt with
  | true =>
    obtain ⟨D2, e2, c2, n2, k2⟩ := flush_cont r1
    exact ⟨D2, by simp [e2], c2, n2.trans r2, k2.trans r3⟩
  | false =>
    rcases r4 with r4 | ⟨_, rfl⟩
    · cases r4
    · exact ⟨D1, by simp, h, r2, r3⟩
theorem clean_cont (L : Lg) (is : List Int) {D : Dv} (h : Calm D) (hr : ∀ kd, (kd = 2 ∨ kd = 3) → ∀ i ∈ is, 0 ≤ L.blk kd i ∧ L.blk kd i < (D.bs.length : Int)) :
    ∃ D', D.clean L is = (0, D') ∧ Calm D' ∧ D'.bs.length = D.bs.length ∧ cont D' = clC L 2 is (clC L 3 is (cont D)) := by
  obtain ⟨D1, e1, c1, n1, k1⟩ := clean1_cont L 3 is h (hr 3 (.inr rfl))
  obtain ⟨D2, e2, c2, n2, k2⟩ := clean1_cont L 2 is c1 (by rw [n1]; exact hr 2 (.inl rfl))
  refine ⟨D2, ?_, c2, n2.trans n1, by rw [k2, k1]⟩
  unfold Dv.clean
  show (if _ then _ else _) = _
  rw [e1, if_neg (by simp)]
  show (if _ then _ else _) = _
  rw [e2, if_neg (by simp)]
  rfl
end
section
set_option linter.unusedVariables false
set_option maxRecDepth 100000

theorem mod_inj {s i j : Int} (hs : 0 < s) (h : i % s = j % s) (h1 : i - j < s) (h2 : j - i < s) : i = j := by
  have a := Int.mul_ediv_add_emod i s
  have b := Int.mul_ediv_add_emod j s
  have e : i - j = s * (i / s - j / s) := by rw [Int.mul_sub]; omega
  generalize i / s - j / s = d at e
  rcases Int.lt_trichotomy d 0 with hd | hd | hd
  · have := Int.mul_le_mul_of_nonneg_left (show d ≤ -1 by omega) (Int.le_of_lt hs)
    omega
  · subst hd; omega
  · have := Int.mul_le_mul_of_nonneg_left (show 1 ≤ d by omega) (Int.le_of_lt hs)
    omega
/-- The log's places are blocks of a device of m blocks. -/
structure Geo (L : Lg) (m : Nat) : Prop where
  base : 0 ≤ L.base
  size : 1 ≤ L.size
  room : L.base + 2 * L.size ≤ (m : Int)
section
variable {L : Lg} {m : Nat}
theorem Geo.two (g : Geo L m) (i : Int) : L.base ≤ L.blk 2 i ∧ L.blk 2 i < L.base + L.size := by
  have a := Int.emod_nonneg i (show L.size ≠ 0 by have := g.size; omega)
  have b := Int.emod_lt_of_pos i (show 0 < L.size by have := g.size; omega)
  unfold Lg.blk
  rw [if_neg (by decide)]
  omega
theorem Geo.three (g : Geo L m) (i : Int) : L.base + L.size ≤ L.blk 3 i ∧ L.blk 3 i < L.base + 2 * L.size := by
  have a := Int.emod_nonneg i (show L.size ≠ 0 by have := g.size; omega)
  have b := Int.emod_lt_of_pos i (show 0 < L.size by have := g.size; omega)
  unfold Lg.blk
  rw [if_pos rfl]
  omega
theorem Geo.in (g : Geo L m) {kd : Int} (hk : kd = 2 ∨ kd = 3) (i : Int) : 0 ≤ L.blk kd i ∧ L.blk kd i < (m : Int) := by
  have := g.base; have := g.size; have := g.room
  rcases hk with rfl | rfl
  · have := g.two i; omega
  · have := g.three i; omega
theorem Geo.lt (g : Geo L m) {kd : Int} (hk : kd = 2 ∨ kd = 3) (i : Int) : L.at kd i < m ∧ L.blk kd i = (L.at kd i : Int) := by
  have := g.in hk i
  unfold Lg.at
  omega
theorem Geo.inj (g : Geo L m) {kd i j : Int} (hk : kd = 2 ∨ kd = 3) (h : L.at kd i = L.at kd j) (h1 : i - j < L.size) (h2 : j - i < L.size) : i = j := by
  have a := (g.lt hk i).2
  have b := (g.lt hk j).2
  refine mod_inj (show 0 < L.size by have := g.size; omega) ?_ h1 h2
  rw [h, ← b] at a
  unfold Lg.blk at a
  omega
theorem Geo.ne (g : Geo L m) (i j : Int) : L.at 2 i ≠ L.at 3 j := by
  have := g.two i; have := g.three j; have := g.base; have := g.size
  unfold Lg.at
  omega
theorem Geo.wrap (g : Geo L m) (kd i : Int) : L.at kd (i + L.size) = L.at kd i := by
  unfold Lg.at Lg.blk
  rw [Int.add_emod_right]
theorem Geo.sread (g : Geo L m) {D : Dv} (h : Live D) (hm : D.bs.length = m) {kd : Int} (hk : kd = 2 ∨ kd = 3) (i : Int) : D.sread (L.blk kd i) = ((cont D (L.at kd i)).1, (cont D (L.at kd i)).2, 0) := by
  obtain ⟨a, b⟩ := g.lt hk i
  rw [b]
  exact sread_cont h (by omega)
theorem Geo.lgread (g : Geo L m) {D : Dv} (h : Live D) (hm : D.bs.length = m) (i : Int) : D.lgread L i = (cont D (L.at 2 i), cont D (L.at 3 i), 0) := by
  unfold Dv.lgread
  rw [g.sread h hm (.inl rfl), g.sread h hm (.inr rfl)]
  rfl
end
/-- Consecutive entries that may be put. -/
structure Ents (L : Lg) (xs : List En) : Prop where
  idx : ∀ (k : Nat) (x : En), xs[k]? = some x → x.index = L.first + (k : Int)
  ok : ∀ x ∈ xs, x.ok = true
  cnt : L.count = (xs.length : Int)
  fits : (xs.length : Int) ≤ L.size
  first : 1 ≤ L.first
  high : L.first + L.size ≤ 281474976710655
structure Lay (L : Lg) (C : Ct) (xs : List En) (g m : Nat → Bool) : Prop where
  ent : ∀ (k : Nat) (x : En), xs[k]? = some x → C (L.at 2 x.index) = if g k = true then (entR x, 1) else (rc0, 2)
  mrk : ∀ (k : Nat) (x : En), xs[k]? = some x → C (L.at 3 x.index) = if m k = true then (mkR x, 1) else (rc0, 2)
def FreeAt (L : Lg) (C : Ct) (i : Int) : Prop := ((C (L.at 2 i)).2 ≠ 2 ∧ (C (L.at 2 i)).1.index < i) ∧ ((C (L.at 3 i)).2 ≠ 2 ∧ (C (L.at 3 i)).1.index < i)
theorem En.okP {x : En} (h : x.ok = true) : 1 ≤ x.term ∧ x.term ≤ 1099511627776 ∧ x.data.size ≤ 488 := by simpa [En.ok] using h
section
variable {L : Lg} {xs : List En} {g m : Nat → Bool} {C : Ct}
theorem Ents.at (h : Ents L xs) {k : Nat} {x : En} (hx : xs[k]? = some x) : k < xs.length ∧ x.index = L.first + (k : Int) ∧ 1 ≤ x.index ∧ x.index < L.first + L.count ∧ x.index ≤ 281474976710655 ∧ 1 ≤ x.term ∧ x.term ≤ 1099511627776 ∧ x.data.size ≤ 488 := by
  have hk := (List.getElem?_eq_some_iff.1 hx).1
  have h1 := h.idx k x hx
  have h2 := En.okP (h.ok x (List.mem_of_getElem? hx))
  have := h.cnt; have := h.fits; have := h.first; have := h.high
  refine ⟨hk, h1, ?_, ?_, ?_, h2⟩ <;> omega
theorem entR_ok {x : En} (h1 : 1 ≤ x.index) (h2 : x.index ≤ 281474976710655) (h : x.ok = true) : (entR x).Ok := by
  have := En.okP h
  exact ⟨⟨⟨(by decide : (0 : Int) ≤ 2), (by decide : (2 : Int) ≤ 281474976710655)⟩, ⟨show 0 ≤ x.index by omega, h2⟩, ⟨show 0 ≤ x.term by omega, show x.term ≤ _ by omega⟩⟩, this.2.2⟩
theorem mkR_ok {x : En} (h1 : 1 ≤ x.index) (h2 : x.index ≤ 281474976710655) (h : x.ok = true) : (mkR x).Ok := by
  have := En.okP h
  exact ⟨⟨⟨(by decide : (0 : Int) ≤ 3), (by decide : (3 : Int) ≤ 281474976710655)⟩, ⟨show 0 ≤ x.index by omega, h2⟩, ⟨show 0 ≤ x.term by omega, show x.term ≤ _ by omega⟩⟩, show (0 : Nat) ≤ 488 by decide⟩
theorem entR_isE (x : En) : (entR x).isE x.index = true := by simp [Rc.isE, entR]
theorem rc0_isE (i : Int) : rc0.isE i = false := by simp [Rc.isE, rc0]
theorem rc0_mark (i t : Int) : rc0 ≠ markR i t := fun e => by have := congrArg Rc.kind e; simp [rc0, markR] at this
theorem cl1_free (v : Rc × Int) {i : Int} (hi : 0 < i) : (cl1 v i).2 ≠ 2 ∧ (cl1 v i).1.index < i := by
  unfold cl1
  split
  · assumption
  · exact ⟨by decide, hi⟩
theorem FreeAt.gone {i : Int} (h : FreeAt L C i) : readsF i (C (L.at 2 i)) (C (L.at 3 i)) = 0 := by
  unfold readsF
  rw [if_neg, if_pos h.1.1]
  intro e
  have : (C (L.at 2 i)).1.kind = 2 ∧ (C (L.at 2 i)).1.index = i := by simpa [Rc.isE] using e
  have := h.1.2
  omega
/-- What load has found behind j entries. -/
def tk (xs : List En) (g m : Nat → Bool) (k : Nat) : Option Int := if g k = true ∨ m k = true then xs[k]?.map En.term else none
def TT (f : Int) (xs : List En) (g m : Nat → Bool) (j : Nat) : Int → Option Int := fun z => if f ≤ z ∧ z < f + (j : Int) then tk xs g m (z - f).toNat else none
def HH (f : Int) (g : Nat → Bool) (j : Nat) : Int → Bool := fun z => decide (f ≤ z ∧ z < f + (j : Int)) && !g (z - f).toNat
def MM (xs : List En) (g m : Nat → Bool) : Nat → List Rc
  | 0 => []
  | j + 1 => match xs[j]? with
    | some x => if g j = true ∧ m j = false then MM xs g m j ++ [mkR x] else MM xs g m j
    | none => MM xs g m j
theorem TT_succ {f : Int} {j : Nat} {v : Option Int} (h : tk xs g m j = v) : upd (TT f xs g m j) (f + (j : Int)) v = TT f xs g m (j + 1) := by
  funext z
  unfold upd TT
  by_cases hz : z = f + (j : Int)
  · rw [if_pos hz, if_pos (by omega), show (z - f).toNat = j by omega, h]
  · rw [if_neg hz]
    by_cases h2 : f ≤ z ∧ z < f + (j : Int)
    · rw [if_pos h2, if_pos (by omega)]
    · rw [if_neg h2, if_neg (by omega)]
theorem TT_none {f : Int} {j : Nat} (h : tk xs g m j = none) : TT f xs g m j = TT f xs g m (j + 1) := by
  funext z
  unfold TT
  by_cases hz : z = f + (j : Int)
  · rw [if_neg (by omega), if_pos (by omega), show (z - f).toNat = j by omega, h]
  · by_cases h2 : f ≤ z ∧ z < f + (j : Int)
    · rw [if_pos h2, if_pos (by omega)]
    · rw [if_neg h2, if_neg (by omega)]
theorem HH_bad {f : Int} {j : Nat} (h : g j = false) : ups (HH f g j) (f + (j : Int)) true = HH f g (j + 1) := by
  funext z
  unfold ups HH
  by_cases hz : z = f + (j : Int)
  · rw [if_pos hz, show (z - f).toNat = j by omega, h]
    simp; omega
  · rw [if_neg hz]
    congr 1
    simp only [decide_eq_decide]
    omega
theorem HH_good {f : Int} {j : Nat} (h : g j = true) : HH f g j = HH f g (j + 1) := by
  funext z
  unfold HH
  by_cases hz : z = f + (j : Int)
  · rw [show (z - f).toNat = j by omega, h]; simp
  · congr 1
    simp only [decide_eq_decide]
    omega
theorem mem_MM {r : Rc} : ∀ j, r ∈ MM xs g m j ↔ ∃ k x, k < j ∧ xs[k]? = some x ∧ g k = true ∧ m k = false ∧ r = mkR x
  | 0 => by simp [MM]
  | j + 1 => by
    have ih := mem_MM (r := r) j
    unfold MM
    cases hx : xs[j]? with
    | none =>
      simp only []
      rw [ih]
      constructor
      · rintro ⟨k, x, h1, h2⟩; exact ⟨k, x, by omega, h2⟩
      · rintro ⟨k, x, h1, h2, h3⟩
        refine ⟨k, x, ?_, h2, h3⟩
        have : k ≠ j := fun e => by rw [e, hx] at h2; cases h2
        omega
    | some y =>
      simp only []
      by_cases hc : g j = true ∧ m j = false
      · rw [if_pos hc, List.mem_append, ih]
        constructor
        · rintro (⟨k, x, h1, h2⟩ | h)
          · exact ⟨k, x, by omega, h2⟩
          · exact ⟨j, y, by omega, hx, hc.1, hc.2, by simpa using h⟩
        · rintro ⟨k, x, h1, h2, h3, h4, h5⟩
          by_cases hk : k = j
          · subst hk
            rw [hx] at h2
            obtain rfl := Option.some.inj h2
            exact .inr (by simp [h5])
          · exact .inl ⟨k, x, by omega, h2, h3, h4, h5⟩
      · rw [if_neg hc, ih]
        constructor
        · rintro ⟨k, x, h1, h2⟩; exact ⟨k, x, by omega, h2⟩
        · rintro ⟨k, x, h1, h2, h3, h4, h5⟩
          by_cases hk : k = j
          · subst hk; exact absurd ⟨h3, h4⟩ hc
          · exact ⟨k, x, by omega, h2, h3, h4, h5⟩
theorem MM_length : ∀ j, (MM xs g m j).length ≤ j
  | 0 => Nat.le_refl _
  | j + 1 => by
    have := MM_length j
    unfold MM
    split
    · split <;> simp <;> omega
    · omega
open Classical in
theorem ld_run {D : Dv} {M : Nat} (G : Geo L M) (hm : D.bs.length = M) (hD : Live D) (R : Ents L xs) (hl : Lay L (cont D) xs g m)
    (hg : (xs.length : Int) < L.size → readsF (L.first + (xs.length : Int)) (cont D (L.at 2 (L.first + (xs.length : Int)))) (cont D (L.at 3 (L.first + (xs.length : Int)))) = 0) :
    ∀ r j : Nat, ((j + r : Nat) : Int) = L.size → j ≤ xs.length → D.ld L r ⟨j, TT L.first xs g m j, HH L.first g j, MM xs g m j⟩ = (⟨xs.length, TT L.first xs g m xs.length, HH L.first g xs.length, MM xs g m xs.length⟩, 0)
  | 0, j, h, hj => by
    obtain rfl : j = xs.length := by have := R.fits; omega
    rfl
  | r + 1, j, h, hj => by
    rw [ld_succ]
    show (if (D.lgread L (L.first + (j : Int))).2.2 ≠ 0 then _ else _) = _
    rw [G.lgread hD hm]
    rw [if_neg (by simp)]
    by_cases hjl : j = xs.length
    · subst hjl
      rw [if_pos (hg (by omega))]
    · obtain ⟨x, hx⟩ : ∃ x, xs[j]? = some x := ⟨xs[j]'(by omega), List.getElem?_eq_getElem (by omega)⟩
      have hi : L.first + (j : Int) = x.index := (R.idx j x hx).symm
      have he := hl.ent j x hx
      have hk := hl.mrk j x hx
      have ih := ld_run G hm hD R hl hg r (j + 1) (by omega) (by omega)
      have htk : ∀ v, v = tk xs g m j → upd (TT L.first xs g m j) (L.first + (j : Int)) v = TT L.first xs g m (j + 1) := fun v hv => TT_succ hv.symm
      simp only []
      rw [hi] at htk ⊢
      rw [he, hk]
      cases hgj : g j with
      | true =>
        have hr : readsF x.index (if true = true then (entR x, 1) else (rc0, 2)) (if m j = true then (mkR x, 1) else (rc0, 2)) = 1 := by
          unfold readsF
          rw [if_pos (show (true = true) from rfl), if_pos (entR_isE x)]
        rw [hr, if_neg (by decide), if_pos (show true = true from rfl)]
        unfold Ld.step
        rw [if_neg (show ¬ (1 : Int) = 2 by decide), if_neg (show ¬ (1 : Int) = 3 by decide)]
        rw [← ih]
        congr 1
        have e1 := htk (some x.term) (by unfold tk; rw [if_pos (.inl hgj), hx]; rfl)
        have e2 : (if (if m j = true then (mkR x, (1 : Int)) else (rc0, 2)).1 = markR x.index (entR x).term then MM xs g m j else MM xs g m j ++ [markR x.index (entR x).term]) = MM xs g m (j + 1) := by
          show _ = match xs[j]? with | some x => _ | none => _
          rw [hx]
          simp only []
          cases hmj : m j with
          | true => rw [if_pos (show true = true from rfl), if_pos (show (mkR x, (1 : Int)).1 = markR x.index (entR x).term from rfl), if_neg (show ¬ (g j = true ∧ true = false) by simp)]
          | false => rw [if_neg (show ¬ (false = true) by simp), if_neg (rc0_mark _ _), if_pos ⟨hgj, rfl⟩]; rfl
        rw [← HH_good hgj, ← e1, ← e2]
        rfl
      | false =>
        cases hmj : m j with
        | true =>
          have hr : readsF x.index (if false = true then (entR x, 1) else (rc0, 2)) (if true = true then (mkR x, 1) else (rc0, 2)) = 2 := by
            unfold readsF
            rw [if_neg (show ¬ (false = true) by simp), if_pos (show (true = true) from rfl), if_neg (by rw [rc0_isE]; simp), if_neg (by simp), if_pos (show (mkR x, (1 : Int)).1 = markR x.index (mkR x, (1 : Int)).1.term from rfl)]
          rw [hr, if_neg (by decide), if_pos (show true = true from rfl)]
          unfold Ld.step
          rw [if_pos rfl, ← ih]
          congr 1
          have e1 := htk (some x.term) (by unfold tk; rw [if_pos (.inr hmj), hx]; rfl)
          have e2 : MM xs g m (j + 1) = MM xs g m j := by
            show (match xs[j]? with | some x => _ | none => _) = _
            rw [hx]
            simp only []
            rw [if_neg (by simp [hgj])]
          have e3 := HH_bad (f := L.first) hgj
          rw [hi] at e3
          rw [e2, ← e3, ← e1]
          rfl
        | false =>
          have hr : readsF x.index (if false = true then (entR x, 1) else (rc0, 2)) (if false = true then (mkR x, 1) else (rc0, 2)) = 3 := by
            unfold readsF
            rw [if_neg (show ¬ (false = true) by simp), if_neg (show ¬ (false = true) by simp), if_neg (by rw [rc0_isE]; simp), if_neg (by simp), if_neg (rc0_mark _ _), if_pos rfl]
          rw [hr, if_neg (by decide)]
          unfold Ld.step
          rw [if_neg (show ¬ (3 : Int) = 2 by decide), if_pos rfl, ← ih]
          congr 1
          have e2 : MM xs g m (j + 1) = MM xs g m j := by
            show (match xs[j]? with | some x => _ | none => _) = _
            rw [hx]
            simp only []
            rw [if_neg (by simp [hgj])]
          have e3 := HH_bad (f := L.first) hgj
          rw [hi] at e3
          rw [e2, ← e3, ← TT_none (by unfold tk; rw [if_neg (by simp [hgj, hmj])])]
theorem mem_idxs {f : Int} {c : Nat} {i : Int} : i ∈ idxs f c ↔ f ≤ i ∧ i < f + (c : Int) := by
  unfold idxs
  simp only [List.mem_map, List.mem_range]
  constructor
  · rintro ⟨k, h1, rfl⟩; omega
  · rintro ⟨h1, h2⟩; exact ⟨(i - f).toNat, by omega, by omega⟩
end
end
section
set_option linter.unusedVariables false
set_option maxRecDepth 100000

theorem ld_count (D : Dv) (L : Lg) (c : Int) : ∀ (r : Nat) (s : Ld), D.ld { L with count := c } r s = D.ld L r s
  | 0, s => rfl
  | r + 1, s => by
    rw [ld_succ, ld_succ]
    simp only [lgread_count]
    rw [ld_count D L c r]
    rfl
theorem TT_zero (f : Int) (xs : List En) (g m : Nat → Bool) : TT f xs g m 0 = fun _ => none := by funext z; unfold TT; rw [if_neg (by omega)]
theorem HH_zero (f : Int) (g : Nat → Bool) : HH f g 0 = fun _ => false := by
  funext z
  unfold HH
  rw [show decide (f ≤ z ∧ z < f + ((0 : Nat) : Int)) = false by simp]
  rfl
/-- The places behind the entries. -/
def Freed (L : Lg) (C : Ct) : Prop := ∀ i, L.first + L.count ≤ i → i < L.first + L.size → FreeAt L C i
section
variable {L : Lg} {xs : List En} {g m : Nat → Bool} {M : Nat} {D : Dv}
theorem Ents.apart (h : Ents L xs) (G : Geo L M) {kd : Int} (hk : kd = 2 ∨ kd = 3) {k : Nat} {x : En} (hx : xs[k]? = some x) {i : Int} (h1 : L.first + L.count ≤ i) (h2 : i < L.first + L.size) : L.at kd i ≠ L.at kd x.index := fun e => by
  obtain ⟨_, a, b, c, _⟩ := h.at hx
  have := G.inj hk e (by omega) (by omega)
  omega
theorem Ents.same (h : Ents L xs) (G : Geo L M) {kd : Int} (hk : kd = 2 ∨ kd = 3) {k k' : Nat} {x x' : En} (hx : xs[k]? = some x) (hx' : xs[k']? = some x') (e : L.at kd x.index = L.at kd x'.index) : k = k' ∧ x = x' := by
  obtain ⟨_, a, b, c, _⟩ := h.at hx
  obtain ⟨_, a', b', c', _⟩ := h.at hx'
  have := h.fits; have := h.cnt
  have := G.inj hk e (by omega) (by omega)
  have hkk : k = k' := by omega
  subst hkk
  rw [hx] at hx'
  exact ⟨rfl, Option.some.inj hx'⟩
theorem open_math {sz : Nat} (G : Geo L M) (hm : D.bs.length = M) (hD : Calm D) (R : Ents L xs) (hl : Lay L (cont D) xs g m) (hsz : L.size = (sz : Int))
    (hg : (xs.length : Int) < L.size → readsF (L.first + (xs.length : Int)) (cont D (L.at 2 (L.first + (xs.length : Int)))) (cont D (L.at 3 (L.first + (xs.length : Int)))) = 0) :
    ∃ D', D.ld L sz ld0 = (⟨xs.length, TT L.first xs g m xs.length, HH L.first g xs.length, MM xs g m xs.length⟩, 0) ∧ D.opn L xs.length (MM xs g m xs.length) = (0, D') ∧ Calm D' ∧ D'.bs.length = M ∧
      Lay L (cont D') xs g (fun k => m k || g k) ∧ Freed L (cont D') := by
  have hcn := R.cnt
  have hfi := R.fits
  have hf1 := R.first
  have h0 : ld0 = ⟨0, TT L.first xs g m 0, HH L.first g 0, MM xs g m 0⟩ := by rw [TT_zero, HH_zero]; rfl
  have hld : D.ld L sz ld0 = (⟨xs.length, TT L.first xs g m xs.length, HH L.first g xs.length, MM xs g m xs.length⟩, 0) := by
    rw [h0]
    exact ld_run G hm hD.toLive R hl hg sz 0 (by omega) (Nat.zero_le _)
  generalize hMM : MM xs g m xs.length = ms at hld ⊢
  have hmem : ∀ r, r ∈ ms ↔ ∃ k x, k < xs.length ∧ xs[k]? = some x ∧ g k = true ∧ m k = false ∧ r = mkR x := fun r => by rw [← hMM]; exact mem_MM _
  have hgood : ∀ r ∈ ms, r.Ok ∧ 0 ≤ L.blk r.kind r.index ∧ L.blk r.kind r.index < (D.bs.length : Int) := by
    intro r hr
    obtain ⟨k, x, _, hx, _, _, rfl⟩ := (hmem r).1 hr
    obtain ⟨_, _, a, _, b, _⟩ := R.at hx
    rw [hm]
    exact ⟨mkR_ok a b (R.ok x (List.mem_of_getElem? hx)), G.in (.inr rfl) _⟩
  have h1 : ∃ D1, D.opn1 L ms = (0, D1) ∧ Calm D1 ∧ D1.bs.length = M ∧ cont D1 = wrC L ms (cont D) := by
    unfold Dv.opn1
    by_cases hz : ms.length = 0
    · rw [if_pos hz]
      obtain rfl : ms = [] := List.eq_nil_of_length_eq_zero hz
      exact ⟨D, rfl, hD, hm, rfl⟩
    · rw [if_neg hz]
      obtain ⟨D1, e, c, n, k⟩ := wr_cont L ms D hD.toLive hgood
      exact ⟨D1, e, c, n.trans hm, k⟩
  obtain ⟨D1, e1, c1, n1, k1⟩ := h1
  obtain ⟨D2, e2, c2, n2, k2⟩ := clean_cont L (idxs (L.first + (xs.length : Int)) (L.size - (xs.length : Int)).toNat) c1 (by rw [n1]; exact fun kd hk i _ => G.in hk i)
  have hidx : ∀ i, i ∈ idxs (L.first + (xs.length : Int)) (L.size - (xs.length : Int)).toNat ↔ L.first + L.count ≤ i ∧ i < L.first + L.size := fun i => by rw [mem_idxs]; omega
  refine ⟨D2, hld, ?_, c2, n2.trans n1, ⟨fun k x hx => ?_, fun k x hx => ?_⟩, fun i hi1 hi2 => ?_⟩
  · unfold Dv.opn
    rw [e1, if_neg (by simp)]
    exact e2
  · rw [k2, clC_out L 2 _ _ _ (fun i hi => R.apart G (.inl rfl) hx ((hidx i).1 hi).1 ((hidx i).1 hi).2), clC_out L 3 _ _ _ (fun i _ e => G.ne _ _ e.symm), k1, wrC_out]
    · exact hl.ent k x hx
    · intro r hr e
      obtain ⟨k', y, _, _, _, _, rfl⟩ := (hmem r).1 hr
      exact G.ne _ _ e.symm
  · rw [k2, clC_out L 2 _ _ _ (fun i _ e => G.ne _ _ e), clC_out L 3 _ _ _ (fun i hi => R.apart G (.inr rfl) hx ((hidx i).1 hi).1 ((hidx i).1 hi).2), k1]
    by_cases hc : g k = true ∧ m k = false
    · have := wrC_in L (mkR x) ms (cont D) ((hmem _).2 ⟨k, x, (R.at hx).1, hx, hc.1, hc.2, rfl⟩) (fun r hr e => by
        obtain ⟨k', y, _, hy, _, _, rfl⟩ := (hmem r).1 hr
        rw [(R.same G (.inr rfl) hy hx e).2])
      rw [if_pos (by simp [hc])]
      exact this
    · rw [wrC_out]
      · rw [hl.mrk k x hx]
        cases hm' : m k with
        | true => simp
        | false =>
          have : g k = false := by cases hg' : g k with | true => exact absurd ⟨hg', hm'⟩ hc | false => rfl
          simp [this]
      · intro r hr e
        obtain ⟨k', y, _, hy, a, b, rfl⟩ := (hmem r).1 hr
        obtain rfl := (R.same G (.inr rfl) hy hx e).1
        exact hc ⟨a, b⟩
  · have hi := (hidx i).2 ⟨hi1, hi2⟩
    have hu : ∀ kd, (kd = 2 ∨ kd = 3) → ∀ j ∈ idxs (L.first + (xs.length : Int)) (L.size - (xs.length : Int)).toNat, L.at kd j = L.at kd i → j = i := fun kd hk j hj e => by
      have := (hidx j).1 hj
      exact G.inj hk e (by omega) (by omega)
    constructor
    · rw [k2, clC_in L 2 i _ _ hi (hu 2 (.inl rfl))]
      exact cl1_free _ (by omega)
    · rw [k2, clC_out L 2 _ _ _ (fun i _ e => G.ne _ _ e), clC_in L 3 i _ _ hi (hu 3 (.inr rfl))]
      exact cl1_free _ (by omega)
abbrev yes : Nat → Bool := fun _ => true
/-- A log with nothing amiss. -/
structure Neat (D : Dv) (L : Lg) (xs : List En) (M : Nat) : Prop where
  geo : Geo L M
  len : D.bs.length = M
  calm : Calm D
  ents : Ents L xs
  lay : Lay L (cont D) xs yes yes
  free : Freed L (cont D)
theorem chk_ok : ∀ (l : List En) (f : Int), (∀ (j : Nat) (x : En), l[j]? = some x → x.index = f + (j : Int) ∧ x.ok = true) → chkF f l = 0
  | [], f, h => rfl
  | x :: l, f, h => by
    have h0 := h 0 x rfl
    rw [chk_go (by have := h0.1; simp at this; exact this) h0.2]
    refine chk_ok l (f + 1) (fun j y hy => ?_)
    have := h (j + 1) y (by simpa using hy)
    exact ⟨by rw [this.1]; push_cast; omega, this.2⟩
theorem Neat.app (h : Neat D L xs M) (ys : List En) (hy : ∀ (j : Nat) (y : En), ys[j]? = some y → y.index = L.first + L.count + (j : Int) ∧ y.ok = true) (hr : (xs.length : Int) + (ys.length : Int) ≤ L.size) :
    ∃ D', D.app L ys = (0, D') ∧ Neat D' { L with count := L.count + ys.length } (xs ++ ys) M := by
  have hcn := h.ents.cnt
  have hf1 := h.ents.first
  have hhi := h.ents.high
  have G := h.geo
  have R' : Ents { L with count := L.count + (ys.length : Int) } (xs ++ ys) := by
    refine ⟨fun k x hx => ?_, fun x hx => ?_, by simp [hcn], by simpa using hr, hf1, hhi⟩
    · show x.index = L.first + (k : Int)
      by_cases hk : k < xs.length
      · rw [List.getElem?_append_left hk] at hx
        exact h.ents.idx k x hx
      · rw [List.getElem?_append_right (by omega)] at hx
        have := (hy _ x hx).1
        omega
    · rcases List.mem_append.1 hx with hx | hx
      · exact h.ents.ok x hx
      · obtain ⟨j, hj⟩ := List.getElem?_of_mem hx
        exact (hy j x hj).2
  have G' : Geo { L with count := L.count + (ys.length : Int) } M := ⟨G.base, G.size, G.room⟩
  have hya : ∀ (j : Nat) (y : En), ys[j]? = some y → (xs ++ ys)[xs.length + j]? = some y := fun j y hj => by rw [List.getElem?_append_right (by omega)]; simpa using hj
  have hxa : ∀ (k : Nat) (x : En), xs[k]? = some x → (xs ++ ys)[k]? = some x := fun k x hx => by rw [List.getElem?_append_left (List.getElem?_eq_some_iff.1 hx).1]; exact hx
  have happ : D.app L ys = D.stoV L ys := by
    unfold Dv.app
    rw [if_neg (by omega), chk_ok ys _ hy, if_neg (by simp)]
  rw [happ]
  cases hlast : ys.getLast? with
  | none =>
    obtain rfl : ys = [] := List.getLast?_eq_none_iff.1 hlast
    refine ⟨D, by unfold Dv.stoV; rfl, G', h.len, h.calm, R', ?_, ?_⟩
    · rw [List.append_nil]; exact ⟨h.lay.ent, h.lay.mrk⟩
    · intro i h1 h2; exact h.free i (by simpa using h1) h2
  | some z =>
    have hrec : ∀ y ∈ ys, (entR y).Ok ∧ (mkR y).Ok := by
      intro y hy'
      obtain ⟨j, hj⟩ := List.getElem?_of_mem hy'
      obtain ⟨_, _, a, _, b, _⟩ := R'.at (hya j y hj)
      exact ⟨entR_ok a b (hy j y hj).2, mkR_ok a b (hy j y hj).2⟩
    obtain ⟨D1, e1, c1, n1, k1⟩ := wr_cont L (ys.map entR) D h.calm.toLive (fun r hr' => by
      obtain ⟨y, hy', rfl⟩ := List.mem_map.1 hr'
      rw [h.len]
      exact ⟨(hrec y hy').1, G.in (.inl rfl) _⟩)
    obtain ⟨D2, e2, c2, n2, k2⟩ := wr_cont L (ys.map mkR) D1 c1.toLive (fun r hr' => by
      obtain ⟨y, hy', rfl⟩ := List.mem_map.1 hr'
      rw [n1, h.len]
      exact ⟨(hrec y hy').2, G.in (.inr rfl) _⟩)
    have hsto : D.stoV L ys = (0, D2) := by
      unfold Dv.stoV
      rw [hlast]
      simp only []
      rw [put_ok (hrec z (List.mem_of_getLast? hlast)).1, if_pos rfl]
      unfold Dv.store
      rw [e1, if_pos rfl]
      exact e2
    have hent : ∀ (j : Nat) (y : En), ys[j]? = some y → cont D2 (L.at 2 y.index) = (entR y, 1) ∧ cont D2 (L.at 3 y.index) = (mkR y, 1) := by
      intro j y hj
      have hmy := List.mem_of_getElem? hj
      constructor
      · rw [k2, wrC_out, k1]
        · refine wrC_in L (entR y) _ _ (List.mem_map.2 ⟨y, hmy, rfl⟩) (fun r hr' e => ?_)
          obtain ⟨y', hy', rfl⟩ := List.mem_map.1 hr'
          obtain ⟨j', hj'⟩ := List.getElem?_of_mem hy'
          rw [(R'.same G' (kd := 2) (.inl rfl) (hya j' y' hj') (hya j y hj) e).2]
        · intro r hr' e
          obtain ⟨y', _, rfl⟩ := List.mem_map.1 hr'
          exact G.ne _ _ e.symm
      · rw [k2]
        refine wrC_in L (mkR y) _ _ (List.mem_map.2 ⟨y, hmy, rfl⟩) (fun r hr' e => ?_)
        obtain ⟨y', hy', rfl⟩ := List.mem_map.1 hr'
        obtain ⟨j', hj'⟩ := List.getElem?_of_mem hy'
        rw [(R'.same G' (kd := 3) (.inr rfl) (hya j' y' hj') (hya j y hj) e).2]
    have hout : ∀ i kd, (kd = 2 ∨ kd = 3) → (∀ (j : Nat) (y : En), ys[j]? = some y → L.at kd y.index ≠ L.at kd i) → cont D2 (L.at kd i) = cont D (L.at kd i) := by
      intro i kd hk hne
      rw [k2, wrC_out, k1, wrC_out]
      · intro r hr' e
        obtain ⟨y', hy', rfl⟩ := List.mem_map.1 hr'
        obtain ⟨j', hj'⟩ := List.getElem?_of_mem hy'
        rcases hk with rfl | rfl
        · exact hne j' y' hj' e
        · exact G.ne _ _ e
      · intro r hr' e
        obtain ⟨y', hy', rfl⟩ := List.mem_map.1 hr'
        obtain ⟨j', hj'⟩ := List.getElem?_of_mem hy'
        rcases hk with rfl | rfl
        · exact G.ne _ _ e.symm
        · exact hne j' y' hj' e
    have hold : ∀ kd, (kd = 2 ∨ kd = 3) → ∀ (k : Nat) (x : En), xs[k]? = some x → cont D2 (L.at kd x.index) = cont D (L.at kd x.index) := fun kd hk k x hx => hout _ kd hk (fun j y hj e => by
      have := (R'.same G' hk (hya j y hj) (hxa k x hx) e).1
      have := (h.ents.at hx).1
      omega)
    have hsplit : ∀ (k : Nat) (x : En), (xs ++ ys)[k]? = some x → xs[k]? = some x ∨ ∃ j, ys[j]? = some x := fun k x hx => by
      by_cases hk : k < xs.length
      · rw [List.getElem?_append_left hk] at hx; exact .inl hx
      · rw [List.getElem?_append_right (by omega)] at hx; exact .inr ⟨_, hx⟩
    refine ⟨D2, hsto, G', (n2.trans n1).trans h.len, c2, R', ⟨fun k x hx => ?_, fun k x hx => ?_⟩, fun i h1 h2 => ?_⟩
    · rw [if_pos rfl]
      rcases hsplit k x hx with hx | ⟨j, hj⟩
      · exact (hold 2 (.inl rfl) k x hx).trans ((h.lay.ent k x hx).trans (if_pos rfl))
      · exact (hent j x hj).1
    · rw [if_pos rfl]
      rcases hsplit k x hx with hx | ⟨j, hj⟩
      · exact (hold 3 (.inr rfl) k x hx).trans ((h.lay.mrk k x hx).trans (if_pos rfl))
      · exact (hent j x hj).2
    · have ha : ∀ kd, (kd = 2 ∨ kd = 3) → cont D2 (L.at kd i) = cont D (L.at kd i) := fun kd hk => hout i kd hk (fun j y hj e => R'.apart G' hk (hya j y hj) h1 h2 e.symm)
      have hfr := h.free i (by have : L.first + (L.count + (ys.length : Int)) ≤ i := h1; omega) h2
      show FreeAt L (cont D2) i
      exact ⟨by rw [ha 2 (.inl rfl)]; exact hfr.1, by rw [ha 3 (.inr rfl)]; exact hfr.2⟩
theorem Neat.cut (h : Neat D L xs M) {f : Int} (h1 : L.first ≤ f) (h2 : f ≤ L.first + L.count) :
    ∃ D', D.cut L f = (0, D') ∧ Neat D' { L with count := f - L.first } (xs.take (f - L.first).toNat) M := by
  have hcn := h.ents.cnt
  have hfi := h.ents.fits
  have hf1 := h.ents.first
  have G := h.geo
  have G' : Geo { L with count := f - L.first } M := ⟨G.base, G.size, G.room⟩
  have htk : ∀ (k : Nat) (x : En), (xs.take (f - L.first).toNat)[k]? = some x → xs[k]? = some x ∧ (k : Int) < f - L.first := fun k x hx => by
    have hk : k < (f - L.first).toNat := by
      have := (List.getElem?_eq_some_iff.1 hx).1
      simp at this; omega
    rw [List.getElem?_take_of_lt hk] at hx
    exact ⟨hx, by omega⟩
  have hlen : (xs.take (f - L.first).toNat).length = (f - L.first).toNat := by simp; omega
  have R' : Ents { L with count := f - L.first } (xs.take (f - L.first).toNat) := by
    refine ⟨fun k x hx => h.ents.idx k x (htk k x hx).1, fun x hx => h.ents.ok x (List.mem_of_mem_take hx), ?_, ?_, hf1, h.ents.high⟩
    · show f - L.first = _; rw [hlen]; omega
    · show _ ≤ L.size; rw [hlen]; omega
  obtain ⟨D2, e2, c2, n2, k2⟩ := clean_cont L (idxs f (L.first + L.count - f).toNat) h.calm (by rw [h.len]; exact fun kd hk i _ => G.in hk i)
  have hidx : ∀ i, i ∈ idxs f (L.first + L.count - f).toNat ↔ f ≤ i ∧ i < L.first + L.count := fun i => by rw [mem_idxs]; omega
  refine ⟨D2, e2, G', n2.trans h.len, c2, R', ⟨fun k x hx => ?_, fun k x hx => ?_⟩, fun i hi1 hi2 => ?_⟩
  · obtain ⟨hx1, hk⟩ := htk k x hx
    obtain ⟨_, a, _⟩ := h.ents.at hx1
    show cont D2 (L.at 2 x.index) = _
    rw [k2, clC_out L 2 _ _ _ (fun i hi e => by have := (hidx i).1 hi; have := G.inj (.inl rfl) e (by omega) (by omega); omega), clC_out L 3 _ _ _ (fun i _ e => G.ne _ _ e.symm)]
    exact h.lay.ent k x hx1
  · obtain ⟨hx1, hk⟩ := htk k x hx
    obtain ⟨_, a, _⟩ := h.ents.at hx1
    show cont D2 (L.at 3 x.index) = _
    rw [k2, clC_out L 2 _ _ _ (fun i _ e => G.ne _ _ e), clC_out L 3 _ _ _ (fun i hi e => by have := (hidx i).1 hi; have := G.inj (.inr rfl) e (by omega) (by omega); omega)]
    exact h.lay.mrk k x hx1
  · have hi1' : f ≤ i := by have : L.first + (f - L.first) ≤ i := hi1; omega
    have hi2' : i < L.first + L.size := hi2
    show FreeAt L (cont D2) i
    by_cases hin : i < L.first + L.count
    · have hi := (hidx i).2 ⟨hi1', hin⟩
      have hu : ∀ kd, (kd = 2 ∨ kd = 3) → ∀ j ∈ idxs f (L.first + L.count - f).toNat, L.at kd j = L.at kd i → j = i := fun kd hk j hj e => by
        have := (hidx j).1 hj
        exact G.inj hk e (by omega) (by omega)
      constructor
      · rw [k2, clC_in L 2 i _ _ hi (hu 2 (.inl rfl))]
        exact cl1_free _ (by omega)
      · rw [k2, clC_out L 2 _ _ _ (fun i _ e => G.ne _ _ e), clC_in L 3 i _ _ hi (hu 3 (.inr rfl))]
        exact cl1_free _ (by omega)
    · have hfr := h.free i (by omega) hi2'
      have ha : ∀ kd, (kd = 2 ∨ kd = 3) → cont D2 (L.at kd i) = cont D (L.at kd i) := fun kd hk => by
        have hne : ∀ j ∈ idxs f (L.first + L.count - f).toNat, L.at kd j ≠ L.at kd i := fun j hj e => by
          have := (hidx j).1 hj
          have := G.inj hk e (by omega) (by omega)
          omega
        rcases hk with rfl | rfl
        · rw [k2, clC_out L 2 _ _ _ hne, clC_out L 3 _ _ _ (fun i _ e => G.ne _ _ e.symm)]
        · rw [k2, clC_out L 2 _ _ _ (fun i _ e => G.ne _ _ e), clC_out L 3 _ _ _ hne]
      exact ⟨by rw [ha 2 (.inl rfl)]; exact hfr.1, by rw [ha 3 (.inr rfl)]; exact hfr.2⟩
theorem Neat.drop (h : Neat D L xs M) {f : Int} (h1 : L.first ≤ f) (h2 : f ≤ L.first + L.count) (h3 : f + L.size ≤ 281474976710655) :
    Neat D { L with first := f, count := L.count - (f - L.first) } (xs.drop (f - L.first).toNat) M := by
  have hcn := h.ents.cnt
  have hfi := h.ents.fits
  have hf1 := h.ents.first
  have G := h.geo
  have G' : Geo { L with first := f, count := L.count - (f - L.first) } M := ⟨G.base, G.size, G.room⟩
  have hdr : ∀ (k : Nat) (x : En), (xs.drop (f - L.first).toNat)[k]? = some x → xs[(f - L.first).toNat + k]? = some x := fun k x hx => by rwa [List.getElem?_drop] at hx
  refine ⟨G', h.len, h.calm, ⟨fun k x hx => ?_, fun x hx => h.ents.ok x (List.mem_of_mem_drop hx), ?_, ?_, ?_, h3⟩, ⟨fun k x hx => by have := h.lay.ent _ x (hdr k x hx); exact this, fun k x hx => by have := h.lay.mrk _ x (hdr k x hx); exact this⟩, fun i hi1 hi2 => ?_⟩
  · have := h.ents.idx _ x (hdr k x hx)
    show x.index = f + (k : Int)
    omega
  · show L.count - (f - L.first) = _; rw [List.length_drop]; omega
  · show _ ≤ L.size; rw [List.length_drop]; omega
  · show 1 ≤ f; omega
  · have hi1' : L.first + L.count ≤ i := by have : f + (L.count - (f - L.first)) ≤ i := hi1; omega
    have hi2' : i < f + L.size := hi2
    show FreeAt L (cont D) i
    by_cases hin : i < L.first + L.size
    · exact h.free i hi1' hin
    · obtain ⟨k, hk⟩ := Int.eq_ofNat_of_zero_le (show 0 ≤ i - L.size - L.first by omega)
      obtain ⟨x, hx⟩ : ∃ x, xs[k]? = some x := ⟨xs[k]'(by omega), List.getElem?_eq_getElem (by omega)⟩
      obtain ⟨_, a, _⟩ := h.ents.at hx
      have e2 : L.at 2 i = L.at 2 x.index := by rw [← G.wrap 2 x.index, show x.index + L.size = i by omega]
      have e3 : L.at 3 i = L.at 3 x.index := by rw [← G.wrap 3 x.index, show x.index + L.size = i by omega]
      have b2 : cont D (L.at 2 x.index) = (entR x, 1) := (h.lay.ent k x hx).trans (if_pos rfl)
      have b3 : cont D (L.at 3 x.index) = (mkR x, 1) := (h.lay.mrk k x hx).trans (if_pos rfl)
      have := h.geo.size
      exact ⟨by rw [e2, b2]; exact ⟨(by decide : (1 : Int) ≠ 2), show x.index < i by omega⟩, by rw [e3, b3]; exact ⟨(by decide : (1 : Int) ≠ 2), show x.index < i by omega⟩⟩
theorem Neat.crash (h : Neat D L xs M) (zs : List Int) : Neat (D.crash zs) L xs M := by
  obtain ⟨a, b, c⟩ := crash_calm h.calm zs
  exact ⟨h.geo, by rw [b]; exact h.len, a, h.ents, by rw [c]; exact h.lay, by rw [c]; exact h.free⟩
theorem Neat.gone (h : Neat D L xs M) : (xs.length : Int) < L.size → readsF (L.first + (xs.length : Int)) (cont D (L.at 2 (L.first + (xs.length : Int)))) (cont D (L.at 3 (L.first + (xs.length : Int)))) = 0 := fun hl => by
  have := h.ents.cnt
  exact (h.free _ (by omega) (by omega)).gone
theorem MM_yes (xs : List En) : ∀ j, MM xs yes yes j = []
  | 0 => rfl
  | j + 1 => by
    unfold MM
    split
    · rw [if_neg (by simp), MM_yes xs j]
    · exact MM_yes xs j
theorem HH_yes (f : Int) (j : Nat) : HH f yes j = fun _ => false := by funext z; simp [HH]
theorem Neat.open {sz : Nat} (h : Neat D L xs M) (hsz : L.size = (sz : Int)) :
    ∃ D', D.ld L sz ld0 = (⟨xs.length, TT L.first xs yes yes xs.length, fun _ => false, []⟩, 0) ∧ D.opn L xs.length [] = (0, D') ∧ Neat D' L xs M := by
  obtain ⟨D', e1, e2, c, n, l, f⟩ := open_math h.geo h.len h.calm h.ents h.lay hsz h.gone
  rw [MM_yes] at e1 e2
  rw [HH_yes] at e1
  exact ⟨D', e1, e2, h.geo, n, c, h.ents, l, f⟩
theorem lread_out {T : Int → Option Int} {i : Int} (h : L.has i = false) : D.lread L T i = (en0, 0) := by unfold Dv.lread; rw [h]; rfl
theorem lread_in (G : Geo L M) (hm : D.bs.length = M) (hD : Live D) (R : Ents L xs) (hl : Lay L (cont D) xs g m) (T : Int → Option Int) {k : Nat} {x : En} (hx : xs[k]? = some x) :
    D.lread L T x.index = getE (if g k = true then entR x else rc0) (T x.index) x.index := by
  obtain ⟨_, a, _, b, _⟩ := R.at hx
  have hh : L.has x.index = true := by simp [Lg.has]; omega
  unfold Dv.lread
  rw [hh, if_pos rfl, G.sread hD hm (.inl rfl), if_pos rfl, hl.ent k x hx]
  split <;> rfl
theorem getE_good {x : En} {T : Option Int} (h : T = none ∨ T = some x.term) : getE (entR x) T x.index = (x, 1) := by
  rcases h with rfl | rfl
  · rw [getE_none, if_pos (entR_isE x)]; rfl
  · rw [getE_some, if_pos ⟨entR_isE x, rfl⟩]; rfl
theorem getE_hurt {i t : Int} : getE rc0 (some t) i = (⟨i, t, ⟨#[]⟩⟩, 2) := by rw [getE_some, if_neg (by rw [rc0_isE]; simp)]
theorem getE_lost {i : Int} : getE rc0 none i = (⟨i, 0, ⟨#[]⟩⟩, 3) := by rw [getE_none, if_neg (by rw [rc0_isE]; simp)]
end
end
section
set_option linter.unusedVariables false
set_option maxRecDepth 100000

structure Stab (P : Dv → Prop) : Prop where
  write : ∀ (D : Dv) (i : Int) (s : ByteArray), P D → P (D.write i s).2
  flush : ∀ D : Dv, P D → P D.flush.2
section
variable {P : Dv → Prop} {D : Dv} {L : Lg}
theorem Stab.swrite (S : Stab P) (h : P D) (i : Int) (r : Rc) : P (D.swrite i r).2 := by
  unfold Dv.swrite
  split
  · exact S.write _ _ _ h
  · exact h
theorem Stab.wr (S : Stab P) (L : Lg) : ∀ (rs : List Rc) (D : Dv), P D → P (D.wr L rs).2
  | [], D, h => S.flush D h
  | r :: l, D, h => by
    have h1 := S.swrite h (L.blk r.kind r.index) r
    by_cases h2 : (D.swrite (L.blk r.kind r.index) r).1 = 0
    · rw [wr_go h2]; exact S.wr L l _ h1
    · rw [wr_stop h2]; exact h1
theorem Stab.pass (S : Stab P) (L : Lg) (kd : Int) : ∀ (is : List Int) (D : Dv) (wt : Bool), P D → P (Dv.pass L kd is D wt).2.1
  | [], D, wt, h => h
  | i :: l, D, wt, h => by
    show P (if _ then _ else if _ then _ else if _ then _ else _ : Int × Dv × Bool).2.1
    split
    · exact h
    · split
      · exact S.pass L kd l D wt h
      · split
        · exact S.write _ _ _ h
        · exact S.pass L kd l _ true (S.write _ _ _ h)
theorem Stab.clean1 (S : Stab P) (L : Lg) (kd : Int) (is : List Int) (h : P D) : P (D.clean1 L kd is).2 := by
  have h1 := S.pass L kd is D false h
  unfold Dv.clean1
  split
  · exact h1
  · split
    · exact S.flush _ h1
    · exact h1
theorem Stab.cleanL (S : Stab P) (L : Lg) (is : List Int) : ∀ (ks : List Int) (D : Dv), P D → P (Dv.cleanL L is ks D).2
  | [], D, h => h
  | kd :: l, D, h => by
    show P (if _ then _ else _ : Int × Dv).2
    split
    · exact S.clean1 L kd is h
    · exact S.cleanL L is l _ (S.clean1 L kd is h)
theorem Stab.clean (S : Stab P) (L : Lg) (is : List Int) (h : P D) : P (D.clean L is).2 := S.cleanL L is [3, 2] D h
theorem Stab.store (S : Stab P) (L : Lg) (xs : List En) (h : P D) : P (D.store L xs).2 := by
  unfold Dv.store
  split
  · exact S.wr L _ _ (S.wr L _ _ h)
  · exact S.wr L _ _ h
theorem Stab.app (S : Stab P) (L : Lg) (xs : List En) (h : P D) : P (D.app L xs).2 := by
  unfold Dv.app
  split
  · exact h
  · split
    · exact h
    · unfold Dv.stoV
      split
      · exact h
      · split
        · exact S.store L xs h
        · exact h
theorem Stab.cut (S : Stab P) (L : Lg) (f : Int) (h : P D) : P (D.cut L f).2 := S.clean L _ h
theorem Stab.opn (S : Stab P) (L : Lg) (c : Nat) (ms : List Rc) (h : P D) : P (D.opn L c ms).2 := by
  have h1 : P (D.opn1 L ms).2 := by
    unfold Dv.opn1
    split
    · exact h
    · exact S.wr L ms D h
  unfold Dv.opn
  split
  · exact h1
  · exact S.clean L _ h1
end
theorem op_bs (D : Dv) : D.op.bs = D.bs := by
  unfold Dv.op
  split
  · rfl
  · split
    · split <;> rfl
    · rfl
/-- No block was flipped, or is half of a write. -/
def Unsp (D : Dv) : Prop := ∀ b ∈ D.bs, b.spoiled = false
theorem unsp_stab : Stab Unsp := by
  constructor
  · intro D i s h
    unfold Dv.write
    split
    · split
      · unfold Unsp; rw [op_bs]; exact h
      · split
        · unfold Unsp; rw [op_bs]; exact h
        · rename_i b hb _
          intro c hc
          rcases List.mem_or_eq_of_mem_set hc with hc | rfl
          · exact h c hc
          · split at hb
            · exact h b (List.mem_of_getElem? hb)
            · cases hb
    · unfold Unsp; rw [op_bs]; exact h
  · intro D h
    unfold Dv.flush
    split
    · intro c hc
      simp only [Dv.flushed, op_bs, List.mem_map] at hc
      obtain ⟨d, hd, rfl⟩ := hc
      unfold Blk.flush
      split
      · exact h d hd
      · rfl
    · unfold Unsp; rw [op_bs]; exact h
theorem unsp_new (m : Int) : Unsp (Dv.new m) := by
  intro b hb
  unfold Dv.new Dv.newN at hb
  rw [List.eq_of_mem_replicate hb]
  rfl
theorem unsp_crash {D : Dv} (h : Unsp D) (hc : Calm D) (zs : List Int) : Unsp (D.crash zs) := by
  unfold Unsp
  rw [(crash_calm hc zs).2.1]
  exact h
/-- A block that reads as a record. -/
theorem rd_one {b : Blk} {r : Rc} (hp : b.pending = []) (h : rd b = (r, 1)) : r.Ok ∧ b.lost = false ∧ b.durable = r.bytes := by
  unfold rd at h
  cases hl : b.lost with
  | true => rw [hl] at h; simp at h
  | false =>
    rw [hl, if_neg (by decide), contents_nil hp] at h
    rcases get_cases b.durable with ⟨_, e⟩ | ⟨_, e⟩ | ⟨r', ho, hb, e⟩
    · rw [e] at h; simp at h
    · rw [e] at h; simp at h
    · rw [e] at h
      obtain rfl : r' = r := (Prod.mk.inj h).1
      exact ⟨ho, rfl, hb⟩
theorem rd_flip {b : Blk} {r : Rc} (hp : b.pending = []) (h : rd b = (r, 1)) (hs : b.spoiled = false) (at' : Int) {bt : Nat} (h0 : bt ≠ 0) (hb : bt < 256) : rd (b.flip at' bt) = (rc0, 2) := by
  obtain ⟨ho, hl, hd⟩ := rd_one hp h
  have hsz := bytes_size ho
  have e : b.flip at' bt = ⟨flipS r.bytes at' bt, true, false, []⟩ := by
    unfold Blk.flip
    rw [if_neg]
    · rw [hd, hl, hp]
    · rintro (h | h | h)
      · exact h0 h
      · rw [hd] at h; omega
      · rw [hs] at h; cases h
  rw [e]
  unfold rd
  rw [if_neg (show ¬ (false = true) by decide), contents_nil rfl]
  exact get_flipped ho at' bt h0 hb
theorem flip_pending (b : Blk) (at' : Int) (bt : Nat) : (b.flip at' bt).pending = b.pending := by
  unfold Blk.flip
  split <;> rfl
end
section
open Go.RowKit
set_option linter.unusedVariables false
set_option maxRecDepth 100000

theorem zero_inR : InR 0 := ⟨by decide, by decide⟩
theorem get_inR (s : ByteArray) : InR (getF s).1.term := by
  rcases get_cases s with ⟨_, e⟩ | ⟨_, e⟩ | ⟨r, ho, _, e⟩
  · rw [e]; exact ⟨by decide, by decide⟩
  · rw [e]; exact ⟨by decide, by decide⟩
  · rw [e]; have := ho.term; exact ⟨by show _ ≤ r.term; omega, by show r.term ≤ _; omega⟩
theorem sread_inR (D : Dv) (i : Int) : InR (D.sread i).1.term := by
  unfold Dv.sread
  split
  · exact zero_inR
  · split
    · exact get_inR _
    · exact zero_inR
theorem lgread_inR (D : Dv) (L : Lg) (i : Int) : InR (D.lgread L i).1.1.term ∧ InR (D.lgread L i).2.1.1.term := by
  unfold Dv.lgread
  split
  · split
    · exact ⟨sread_inR D _, sread_inR D _⟩
    · exact ⟨zero_inR, zero_inR⟩
  · exact ⟨zero_inR, zero_inR⟩
/-- The known terms are the entries'. -/
structure Sane (xs : List En) (f : Int) (T : Int → Option Int) : Prop where
  inn : ∀ (k : Nat) (x : En), xs[k]? = some x → T (f + (k : Int)) = some x.term
  out : ∀ z, z < f ∨ f + (xs.length : Int) ≤ z → T z = none
theorem Sane.nil (f : Int) : Sane [] f (fun _ => none) := ⟨fun k x h => by simp at h, fun _ _ => rfl⟩
theorem Sane.snoc {xs : List En} {f : Int} {T : Int → Option Int} (h : Sane xs f T) (y : En) (hy : y.index = f + (xs.length : Int)) : Sane (xs ++ [y]) f (upd T y.index (some y.term)) := by
  refine ⟨fun k x hx => ?_, fun z hz => ?_⟩
  · unfold upd
    by_cases hk : k < xs.length
    · rw [List.getElem?_append_left hk] at hx
      rw [if_neg (by omega)]
      exact h.inn k x hx
    · rw [List.getElem?_append_right (by omega)] at hx
      have hk' : k - xs.length = 0 := by
        have := (List.getElem?_eq_some_iff.1 hx).1
        simp at this; omega
      rw [hk'] at hx
      obtain rfl : y = x := by simpa using hx
      rw [if_pos (by omega)]
  · unfold upd
    simp only [List.length_append, List.length_singleton] at hz
    rw [if_neg (by omega)]
    exact h.out z (by omega)
theorem Sane.add : ∀ (ys xs : List En) {f : Int} {T : Int → Option Int}, Sane xs f T → (∀ (j : Nat) (y : En), ys[j]? = some y → y.index = f + (xs.length : Int) + (j : Int)) → Sane (xs ++ ys) f (addT T ys)
  | [], xs, f, T, h, _ => by rw [List.append_nil]; exact h
  | y :: ys, xs, f, T, h, hy => by
    have h0 := hy 0 y rfl
    have := Sane.add ys (xs ++ [y]) (h.snoc y (by simp at h0; exact h0)) (fun j z hz => by
      have := hy (j + 1) z (by simpa using hz)
      rw [List.length_append, List.length_singleton]
      push_cast at this ⊢
      omega)
    rw [List.append_assoc] at this
    exact this
theorem Sane.cut {xs : List En} {f : Int} {T : Int → Option Int} (h : Sane xs f T) {z : Int} {c : Nat} (h1 : f ≤ z) (h2 : z + (c : Int) = f + (xs.length : Int)) : Sane (xs.take (z - f).toNat) f (cutT T z c) := by
  have hl : (xs.take (z - f).toNat).length = (z - f).toNat := by simp; omega
  refine ⟨fun k x hx => ?_, fun y hy => ?_⟩
  · have hk : k < (z - f).toNat := by have := (List.getElem?_eq_some_iff.1 hx).1; omega
    rw [List.getElem?_take_of_lt hk] at hx
    unfold cutT
    rw [if_neg (by omega)]
    exact h.inn k x hx
  · rw [hl] at hy
    unfold cutT
    split
    · rfl
    · exact h.out y (by omega)
theorem Sane.drop {xs : List En} {f : Int} {T : Int → Option Int} (h : Sane xs f T) {z : Int} (h1 : f ≤ z) (h2 : z ≤ f + (xs.length : Int)) : Sane (xs.drop (z - f).toNat) z (cutT T f (z - f).toNat) := by
  refine ⟨fun k x hx => ?_, fun y hy => ?_⟩
  · rw [List.getElem?_drop] at hx
    have := h.inn _ x hx
    unfold cutT
    rw [if_neg (by omega), show z + (k : Int) = f + (((z - f).toNat + k : Nat) : Int) by omega]
    exact this
  · rw [List.length_drop] at hy
    unfold cutT
    split
    · rfl
    · exact h.out y (by omega)
theorem Sane.inR {xs : List En} {f : Int} {T : Int → Option Int} (h : Sane xs f T) (ho : ∀ x ∈ xs, x.ok = true) : ∀ z t, T z = some t → InR t := by
  intro z t ht
  by_cases hz : z < f ∨ f + (xs.length : Int) ≤ z
  · rw [h.out z hz] at ht; cases ht
  · obtain ⟨k, hk⟩ := Int.eq_ofNat_of_zero_le (show 0 ≤ z - f by omega)
    have hx : xs[k]? = some (xs[k]'(by omega)) := List.getElem?_eq_getElem (by omega)
    have := h.inn k _ hx
    rw [show f + (k : Int) = z by omega, ht] at this
    have e := Option.some.inj this
    have := En.okP (ho _ (List.mem_of_getElem? hx))
    exact ⟨by omega, by omega⟩
theorem TT_sane (f : Int) (xs : List En) : Sane xs f (TT f xs yes yes xs.length) := by
  refine ⟨fun k x hx => ?_, fun z hz => ?_⟩
  · have := (List.getElem?_eq_some_iff.1 hx).1
    unfold TT
    rw [if_pos (by omega), show (f + (k : Int) - f).toNat = k by omega]
    unfold tk
    rw [if_pos (.inl rfl), hx]
    rfl
  · unfold TT
    rw [if_neg (by omega)]
/-- The log: from first on, these entries. -/
def Lw (n : Nat) (E : Nat → Prop) (w : World) (b B bt bd M : Nat) (base size first : Int) (xs : List En) (k : Nat) (D : Dv) : Prop :=
  ∃ T, LogW n E w b B bt bd D ⟨base, size, first, xs.length⟩ k T (fun _ => false) ∧ Neat D ⟨base, size, first, xs.length⟩ xs M ∧ Sane xs first T
theorem lg_fit {D : Dv} {L : Lg} {xs : List En} {M : Nat} (h : Neat D L xs M) (hM : M ≤ 4096) : L.Fit := by
  have a := h.geo.base; have b := h.geo.size; have c := h.geo.room; have d := h.ents.cnt; have e := h.ents.fits; have f := h.ents.first; have g := h.ents.high
  refine ⟨⟨b, by omega⟩, ⟨a, by omega⟩, ⟨f, by omega⟩, ⟨by omega, by omega⟩⟩
section
variable {n : Nat} {E : Nat → Prop} {w : World} {b B bt bd M k : Nat} {base size first : Int} {xs : List En} {D : Dv}
theorem Lw.below {x : World} (h : Lw n E w b B bt bd M base size first xs k D) (hb : Below w.heap.size w x) : Lw n E x b B bt bd M base size first xs k D := by
  obtain ⟨T, h1, h2, h3⟩ := h; exact ⟨T, h1.below hb, h2, h3⟩
theorem Lw.mono {k' : Nat} (h : Lw n E w b B bt bd M base size first xs k D) (hk : k ≤ k') : Lw n E w b B bt bd M base size first xs k' D := by
  obtain ⟨T, h1, h2, h3⟩ := h; exact ⟨T, h1.mono hk, h2, h3⟩
theorem Lw.log (h : Lw n E w b B bt bd M base size first xs k D) : LogB w b B bt bd ⟨base, size, first, xs.length⟩ := by obtain ⟨T, h1, h2, h3⟩ := h; exact h1.log
theorem Lw.neat (h : Lw n E w b B bt bd M base size first xs k D) : Neat D ⟨base, size, first, xs.length⟩ xs M := by obtain ⟨T, h1, h2, h3⟩ := h; exact h2
theorem Lw.dev (h : Lw n E w b B bt bd M base size first xs k D) : DevW n E w B D := by obtain ⟨T, h1, h2, h3⟩ := h; exact h1.dev
theorem lw_append (h : Lw n E w b B bt bd M base size first xs k D) (hM : M ≤ 4096) (v : Value) (ys : List En) (hv : EnS (But E b bt bd) w v ys) (hy : ∀ (j : Nat) (y : En), ys[j]? = some y → y.index = first + (xs.length : Int) + (j : Int) ∧ y.ok = true)
    (hr : (xs.length : Int) + (ys.length : Int) ≤ size) (hn : n ≤ w.heap.size) (ht : ∀ x, Below n w x → Tabs x) (hk : k < 900000000) :
    Calls Tryd.prog 37 #[.pointer (some ⟨b, 0, none⟩), v] w fun e w' => e = .returned (.int .i64 0) ∧ (∃ D', Lw n E w' b B bt bd M base size first (xs ++ ys) (k + ys.length) D' ∧ (Unsp D → Unsp D')) ∧ Below n w w' ∧ Kept (But E b bt bd) w w' := by
  obtain ⟨T, h1, h2, h3⟩ := h
  obtain ⟨D', e, h2'⟩ := h2.app ys hy hr
  have e3 : (⟨base, size, first, (xs.length : Int) + (ys.length : Int)⟩ : Lg) = ⟨base, size, first, ((xs ++ ys).length : Int)⟩ := by rw [List.length_append]; push_cast; rfl
  have h2'' : Neat D' ⟨base, size, first, ((xs ++ ys).length : Int)⟩ (xs ++ ys) M := by rw [← e3]; exact h2'
  refine (pappend_any v ys h1 hv (fun y hy' => ?_) hn ht (by rw [h2.calm.writes]; decide) (lg_fit h2 hM) hk (0, D') e.symm ⟨base, size, first, (xs.length : Int) + (ys.length : Int)⟩ (addT T ys) (by rw [if_pos rfl]) (by rw [if_pos rfl])).mono ?_
  · obtain ⟨j, hj⟩ := List.getElem?_of_mem hy'
    have a := hy j y hj
    have c := En.okP a.2
    have d := h2''.ents.at (k := xs.length + j) (x := y) (by rw [List.getElem?_append_right (by omega)]; simpa using hj)
    exact ⟨⟨by omega, by omega⟩, ⟨by omega, by omega⟩, by unfold maxLen; omega⟩
  · rintro e w' ⟨rfl, W, hb, hk'⟩
    refine ⟨rfl, ⟨D', ⟨addT T ys, ?_, h2'', h3.add ys xs (fun j y hj => (hy j y hj).1)⟩, fun hu => by have := unsp_stab.app ⟨base, size, first, xs.length⟩ ys hu; rw [e] at this; exact this⟩, hb, hk'⟩
    rw [← e3]
    exact W
theorem lw_cut (h : Lw n E w b B bt bd M base size first xs k D) (hM : M ≤ 4096) {f : Int} (h1 : first ≤ f) (h2 : f ≤ first + (xs.length : Int)) (hn : n ≤ w.heap.size) (ht : ∀ x, Below n w x → Tabs x) :
    Calls Tryd.prog 39 #[.pointer (some ⟨b, 0, none⟩), .int .i64 f] w fun e w' => e = .returned (.int .i64 0) ∧ (∃ D', Lw n E w' b B bt bd M base size first (xs.take (f - first).toNat) k D' ∧ (Unsp D → Unsp D')) ∧ Below n w w' ∧ Kept (But E b bt bd) w w' := by
  obtain ⟨T, hW, hN, hS⟩ := h
  obtain ⟨D', e, h2'⟩ := hN.cut h1 h2
  have hfi := hN.ents.fits
  have hf1 := hN.ents.first
  have hhi := hN.ents.high
  simp only at hfi hf1 hhi
  have hl : ((xs.take (f - first).toNat).length : Int) = f - first := by simp; omega
  have hh : (⟨base, size, first, xs.length⟩ : Lg).hasNext f = true := by simp [Lg.hasNext]; omega
  refine (pcut_any f hW hn ht (by rw [hN.calm.writes]; decide) (lg_fit hN hM) ⟨by omega, by omega⟩ (0, D') (by rw [if_pos hh]; exact e.symm) ⟨base, size, first, f - first⟩ _ _ (by rw [if_pos rfl]) rfl rfl).mono ?_
  rintro e w' ⟨rfl, W, hb, hk'⟩
  rw [if_pos rfl, if_pos rfl] at W
  refine ⟨rfl, ⟨D', ⟨_, ?_, ?_, hS.cut (z := f) (c := (first + (xs.length : Int) - f).toNat) h1 (by omega)⟩, fun hu => by have := unsp_stab.cut ⟨base, size, first, xs.length⟩ f hu; rw [e] at this; exact this⟩, hb, hk'⟩
  · rw [hl]
    have e : cutS (fun _ => false) f (first + (xs.length : Int) - f).toNat = fun _ => false := by funext z; unfold cutS; split <;> rfl
    rw [← e]
    exact W
  · rw [hl]; exact h2'
theorem lw_drop (h : Lw n E w b B bt bd M base size first xs k D) (hM : M ≤ 4096) {f : Int} (h1 : first ≤ f) (h2 : f ≤ first + (xs.length : Int)) (h3 : f + size ≤ 281474976710655) (hn : n ≤ w.heap.size) :
    Calls Tryd.prog 40 #[.pointer (some ⟨b, 0, none⟩), .int .i64 f] w fun e w' => e = .returned (.int .i64 0) ∧ Lw n E w' b B bt bd M base size f (xs.drop (f - first).toNat) k D ∧ Below n w w' ∧ Kept (But E b bt bd) w w' := by
  obtain ⟨T, hW, hN, hS⟩ := h
  have hN' := hN.drop h1 h2 h3
  have hfi := hN.ents.fits
  have hf1 := hN.ents.first
  have hhi := hN.ents.high
  simp only at hfi hf1 hhi
  have hl : ((xs.drop (f - first).toNat).length : Int) = (xs.length : Int) - (f - first) := by rw [List.length_drop]; omega
  have hh : (⟨base, size, first, xs.length⟩ : Lg).hasNext f = true := by simp [Lg.hasNext]; omega
  refine (pdrop_any f hW hn (lg_fit hN hM) ⟨by omega, by omega⟩).mono ?_
  rintro e w' ⟨rfl, W, hb, hk'⟩
  rw [if_pos hh, if_pos hh, if_pos hh] at W
  refine ⟨by rw [if_pos hh], ⟨_, ?_, ?_, hS.drop h1 h2⟩, hb, hk'⟩
  · rw [hl]
    have e : cutS (fun _ => false) first (f - first).toNat = fun _ => false := by funext z; unfold cutS; split <;> rfl
    rw [← e]
    exact W
  · rw [hl]; exact hN'
theorem lw_read (h : Lw n E w b B bt bd M base size first xs k D) (hM : M ≤ 4096) (i : Int) (V : En × Int) (hV : (∃ j : Nat, xs[j]? = some V.1 ∧ i = first + (j : Int) ∧ V.2 = 1) ∨ ((i < first ∨ first + (xs.length : Int) ≤ i) ∧ V = (en0, 0))) (hi : 0 ≤ i ∧ i ≤ 9223372036854775807) (hn : n ≤ w.heap.size) (ht : ∀ x, Below n w x → Tabs x) (hk : k < 900000000) :
    Calls Tryd.prog 24 #[.pointer (some ⟨b, 0, none⟩), .int .i64 i] w fun e w' => e = .returned (lgetV V) ∧ Lw n E w' b B bt bd M base size first xs (k + 1) D ∧ Below n w w' ∧ Kept (But E b bt bd) w w' := by
  obtain ⟨T, hW, hN, hS⟩ := h
  have hv : V = D.lread ⟨base, size, first, xs.length⟩ T i := by
    rcases hV with ⟨j, hj, rfl, h1⟩ | ⟨ho, rfl⟩
    · obtain ⟨x, m⟩ := V
      simp only at hj h1
      subst h1
      have hx := (hN.ents.at hj).2.1
      simp only at hx
      rw [← hx, lread_in hN.geo hN.len hN.calm.toLive hN.ents hN.lay T hj, if_pos rfl, getE_good]
      right
      rw [hx]
      exact hS.inn j x hj
    · rw [lread_out]
      simp [Lg.has]
      omega
  have h2 : V.2 < 2 := by
    rcases hV with ⟨j, _, _, h1⟩ | ⟨_, rfl⟩
    · omega
    · decide
  refine (pget_to i V (fun _ => false) hv (by rw [if_neg (by omega)]) hW hn ht (by rw [hN.calm.writes]; decide) (lg_fit hN hM) hi (by omega) (hS.inR hN.ents.ok)).mono ?_
  rintro e w' ⟨rfl, W, hb, hk'⟩
  exact ⟨rfl, ⟨T, W, hN, hS⟩, hb, hk'⟩
theorem lw_hurt (h : Lw n E w b B bt bd M base size first xs k D) : Calls Tryd.prog 25 #[.pointer (some ⟨b, 0, none⟩)] w fun e w' => e = .returned (.int .i64 0) ∧ Below w.heap.size w w' := by
  obtain ⟨T, hW, hN, hS⟩ := h
  refine (phurt_any hW.log hW.hurts (fun z _ h => by cases h)).mono ?_
  rintro e w' ⟨m, rfl, hm, hb⟩
  rcases hm with ⟨rfl, _⟩ | ⟨_, _, h, _⟩
  · exact ⟨rfl, hb⟩
  · cases h
theorem lw_last (h : Lw n E w b B bt bd M base size first xs k D) (m : Int) (hm : m = first + (xs.length : Int) - 1) : Calls Tryd.prog 27 #[.pointer (some ⟨b, 0, none⟩)] w fun e w' => e = .returned (.int .i64 m) ∧ Below w.heap.size w w' := by
  have hN := h.neat
  have hfi := hN.ents.fits
  have hf1 := hN.ents.first
  have hhi := hN.ents.high
  simp only at hfi hf1 hhi
  refine (plast_any h.log ⟨by show _ ≤ first; omega, by show first ≤ _; omega⟩ ⟨by show (0 : Int) ≤ (xs.length : Int); omega, by show (xs.length : Int) ≤ _; omega⟩).mono ?_
  intro e w' hh
  rw [hm]
  exact hh
theorem lw_first (h : Lw n E w b B bt bd M base size first xs k D) : Calls Tryd.prog 52 #[.pointer (some ⟨b, 0, none⟩)] w fun e w' => e = .returned (.int .i64 first) ∧ w = w' := pfirst_any h.log
theorem lw_term (h : Lw n E w b B bt bd M base size first xs k D) (i : Int) (t : Int) (ht : (∃ (j : Nat) (x : En), xs[j]? = some x ∧ i = first + (j : Int) ∧ t = x.term) ∨ ((i < first ∨ first + (xs.length : Int) ≤ i) ∧ t = 0)) (hi : InR i) :
    Calls Tryd.prog 54 #[.pointer (some ⟨b, 0, none⟩), .int .i64 i] w fun e w' => e = .returned (.int .i64 t) ∧ w = w' := by
  obtain ⟨T, hW, hN, hS⟩ := h
  refine (pterm_any i hW.log hW.terms hi).mono ?_
  rintro e w' ⟨rfl, rfl⟩
  refine ⟨?_, rfl⟩
  rcases ht with ⟨j, x, hj, rfl, rfl⟩ | ⟨ho, rfl⟩
  · rw [hS.inn j x hj]; rfl
  · rw [hS.out i ho]; rfl
end
end
section
open Go.RowKit
set_option linter.unusedVariables false
set_option maxRecDepth 100000

/-- Load stops behind the entries. -/
def Stop (L : Lg) (C : Ct) (xs : List En) : Prop := (xs.length : Int) < L.size → readsF (L.first + (xs.length : Int)) (C (L.at 2 (L.first + (xs.length : Int)))) (C (L.at 3 (L.first + (xs.length : Int)))) = 0
/-- A log some of whose blocks are damaged. -/
structure Harmd (D : Dv) (L : Lg) (xs : List En) (g m : Nat → Bool) (M : Nat) : Prop where
  geo : Geo L M
  len : D.bs.length = M
  calm : Calm D
  ents : Ents L xs
  lay : Lay L (cont D) xs g m
  stop : Stop L (cont D) xs
section
variable {L : Lg} {xs : List En} {g m : Nat → Bool} {M : Nat} {D : Dv}
theorem Neat.harmd (h : Neat D L xs M) : Harmd D L xs yes yes M := ⟨h.geo, h.len, h.calm, h.ents, h.lay, h.gone⟩
theorem neat_new {M : Nat} {base size first : Int} (hM : M ≤ 4096) (h0 : 0 ≤ base) (h1 : 1 ≤ size) (h2 : base + 2 * size ≤ (M : Int)) (h3 : 1 ≤ first) (h4 : first + size ≤ 281474976710655) : Neat (Dv.new (M : Int)) ⟨base, size, first, ([] : List En).length⟩ [] M := by
  obtain ⟨a, b, c⟩ := new_calm M hM
  refine ⟨⟨h0, h1, h2⟩, b, a, ⟨fun k x hx => by simp at hx, fun x hx => by simp at hx, rfl, by simp; omega, h3, h4⟩, ⟨fun k x hx => by simp at hx, fun k x hx => by simp at hx⟩, fun i hi _ => ?_⟩
  rw [c]
  have : (1 : Int) ≤ i := by simp at hi; omega
  exact ⟨⟨by show (0 : Int) ≠ 2; decide, by show (0 : Int) < i; omega⟩, ⟨by show (0 : Int) ≠ 2; decide, by show (0 : Int) < i; omega⟩⟩
theorem Stop.put {C : Ct} (R : Ents L xs) (G : Geo L M) (h : Stop L C xs) {kd : Int} (hk : kd = 2 ∨ kd = 3) {j : Nat} {x : En} (hx : xs[j]? = some x) (v : Rc × Int) : Stop L (put2 C (L.at kd x.index) v) xs := fun hl => by
  have := R.cnt
  have h2 : L.at 2 (L.first + (xs.length : Int)) ≠ L.at kd x.index := by
    rcases hk with rfl | rfl
    · exact R.apart G (.inl rfl) hx (by omega) (by omega)
    · exact G.ne _ _
  have h3 : L.at 3 (L.first + (xs.length : Int)) ≠ L.at kd x.index := by
    rcases hk with rfl | rfl
    · exact fun e => G.ne _ _ e.symm
    · exact R.apart G (.inr rfl) hx (by omega) (by omega)
  rw [put2_other h2, put2_other h3]
  exact h hl
/-- An entry's block is lost. -/
theorem Harmd.lose2 (h : Harmd D L xs g m M) {j : Nat} {x : En} (hx : xs[j]? = some x) : Harmd (D.onB (L.blk 2 x.index) Blk.lose) L xs (fun k => g k && decide (k ≠ j)) m M := by
  obtain ⟨hlt, hb⟩ := h.geo.lt (.inl rfl) x.index
  rw [hb]
  obtain ⟨a, b, c⟩ := lose_cont h.calm (k := L.at 2 x.index) (by rw [h.len]; exact hlt)
  refine ⟨h.geo, b.trans h.len, a, h.ents, ⟨fun k y hy => ?_, fun k y hy => ?_⟩, by rw [c]; exact h.stop.put h.ents h.geo (.inl rfl) hx _⟩
  · rw [c]
    by_cases hk : k = j
    · subst hk
      rw [hx] at hy
      obtain rfl := Option.some.inj hy
      rw [put2_same, if_neg (by simp)]
    · rw [put2_other (fun e => hk (h.ents.same h.geo (.inl rfl) hy hx e).1), h.lay.ent k y hy]
      simp [hk]
  · rw [c, put2_other (fun e => h.geo.ne _ _ e.symm)]
    exact h.lay.mrk k y hy
/-- A mark's block is lost. -/
theorem Harmd.lose3 (h : Harmd D L xs g m M) {j : Nat} {x : En} (hx : xs[j]? = some x) : Harmd (D.onB (L.blk 3 x.index) Blk.lose) L xs g (fun k => m k && decide (k ≠ j)) M := by
  obtain ⟨hlt, hb⟩ := h.geo.lt (.inr rfl) x.index
  rw [hb]
  obtain ⟨a, b, c⟩ := lose_cont h.calm (k := L.at 3 x.index) (by rw [h.len]; exact hlt)
  refine ⟨h.geo, b.trans h.len, a, h.ents, ⟨fun k y hy => ?_, fun k y hy => ?_⟩, by rw [c]; exact h.stop.put h.ents h.geo (.inr rfl) hx _⟩
  · rw [c, put2_other (fun e => h.geo.ne _ _ e)]
    exact h.lay.ent k y hy
  · rw [c]
    by_cases hk : k = j
    · subst hk
      rw [hx] at hy
      obtain rfl := Option.some.inj hy
      rw [put2_same, if_neg (by simp)]
    · rw [put2_other (fun e => hk (h.ents.same h.geo (.inr rfl) hy hx e).1), h.lay.mrk k y hy]
      simp [hk]
theorem Harmd.drop (h : Harmd D L xs g yes M) {f : Int} (h1 : L.first ≤ f) (h2 : f ≤ L.first + L.count) (h3 : f + L.size ≤ 281474976710655) :
    Harmd D { L with first := f, count := L.count - (f - L.first) } (xs.drop (f - L.first).toNat) (fun k => g ((f - L.first).toNat + k)) yes M := by
  have hcn := h.ents.cnt
  have hfi := h.ents.fits
  have hf1 := h.ents.first
  have G := h.geo
  have G' : Geo { L with first := f, count := L.count - (f - L.first) } M := ⟨G.base, G.size, G.room⟩
  have hdr : ∀ (k : Nat) (x : En), (xs.drop (f - L.first).toNat)[k]? = some x → xs[(f - L.first).toNat + k]? = some x := fun k x hx => by rwa [List.getElem?_drop] at hx
  have hl : ((xs.drop (f - L.first).toNat).length : Int) = L.count - (f - L.first) := by rw [List.length_drop]; omega
  refine ⟨G', h.len, h.calm, ⟨fun k x hx => ?_, fun x hx => h.ents.ok x (List.mem_of_mem_drop hx), hl.symm, ?_, ?_, h3⟩, ⟨fun k x hx => by have := h.lay.ent _ x (hdr k x hx); exact this, fun k x hx => by have := h.lay.mrk _ x (hdr k x hx); exact this⟩, ?_⟩
  · have := h.ents.idx _ x (hdr k x hx)
    show x.index = f + (k : Int)
    omega
  · show _ ≤ L.size; omega
  · show 1 ≤ f; omega
  · intro hs
    have hs' : L.count - (f - L.first) < L.size := by rw [← hl]; exact hs
    show readsF (f + _) (cont D (L.at 2 (f + _))) (cont D (L.at 3 (f + _))) = 0
    rw [hl, show f + (L.count - (f - L.first)) = L.first + (xs.length : Int) by omega]
    by_cases hlt : (xs.length : Int) < L.size
    · exact h.stop hlt
    · obtain ⟨x, hx⟩ : ∃ x, xs[0]? = some x := ⟨xs[0]'(by have := G.size; omega), List.getElem?_eq_getElem _⟩
      obtain ⟨_, a, _⟩ := h.ents.at hx
      have hsz := G.size
      have e2 : L.at 2 (L.first + (xs.length : Int)) = L.at 2 x.index := by rw [← G.wrap 2 x.index]; congr 1; omega
      have e3 : L.at 3 (L.first + (xs.length : Int)) = L.at 3 x.index := by rw [← G.wrap 3 x.index]; congr 1; omega
      have hne : x.index ≠ L.first + (xs.length : Int) := by omega
      rw [e2, e3, h.lay.ent 0 x hx, h.lay.mrk 0 x hx, if_pos rfl]
      have q : ∀ v : Rc × Int, (v = (entR x, 1) ∨ v = (rc0, 2)) → readsF (L.first + (xs.length : Int)) v (mkR x, 1) = 0 := by
        rintro v (rfl | rfl)
        · unfold readsF
          rw [if_neg (by simp [Rc.isE, entR, hne]), if_pos (show (1 : Int) ≠ 2 by decide)]
        · unfold readsF
          rw [if_neg (by rw [rc0_isE]; simp), if_neg (by simp), if_neg (fun e => hne (congrArg Rc.index e)), if_neg (show ¬ (1 : Int) = 2 by decide)]
      apply q
      cases g 0 with
      | true => exact .inl (if_pos rfl)
      | false => exact .inr (if_neg (by simp))
/-- Scrub finds what is damaged. -/
theorem scrub_is (h : Harmd D L xs g m M) {T : Int → Option Int} (hT : Sane xs L.first T) : scrubS D L T (fun _ => false) xs.length = HH L.first g xs.length := by
  funext z
  unfold scrubS HH
  by_cases hz : L.first ≤ z ∧ z < L.first + (xs.length : Int)
  · obtain ⟨k, hk⟩ := Int.eq_ofNat_of_zero_le (show 0 ≤ z - L.first by omega)
    have hx : xs[k]? = some (xs[k]'(by omega)) := List.getElem?_eq_getElem (by omega)
    generalize xs[k]'(by omega) = x at hx
    have hi := (h.ents.at hx).2.1
    have hzx : z = x.index := by omega
    have hl := lread_in h.geo h.len h.calm.toLive h.ents h.lay T hx
    have hTx : T x.index = some x.term := by rw [hi]; exact hT.inn k x hx
    rw [hzx, hl, hTx, show (x.index - L.first).toNat = k by omega]
    cases hg : g k with
    | true =>
      rw [if_pos (show true = true from rfl), getE_good (.inr rfl), if_neg (by simp)]
      simp
    | false =>
      rw [if_neg (show ¬ false = true by simp), getE_hurt, if_pos ⟨by omega, show (2 : Int) ≤ 2 by decide⟩]
      simp; omega
  · rw [if_neg (fun e => hz e.1)]
    have : decide (L.first ≤ z ∧ z < L.first + (xs.length : Int)) = false := by simpa using hz
    rw [this]; rfl
theorem HH_at {f : Int} {j k : Nat} (hk : k < j) : HH f g j (f + (k : Int)) = !g k := by
  unfold HH
  rw [show (f + (k : Int) - f).toNat = k by omega, show decide (f ≤ f + (k : Int) ∧ f + (k : Int) < f + (j : Int)) = true by simp; omega]
  rfl
theorem HH_inv {f : Int} {j : Nat} {z : Int} (h : HH f g j z = true) : ∃ k : Nat, z = f + (k : Int) ∧ k < j ∧ g k = false := by
  unfold HH at h
  simp only [Bool.and_eq_true, decide_eq_true_eq, Bool.not_eq_true'] at h
  exact ⟨(z - f).toNat, by omega, by omega, h.2⟩
theorem min_none {f : Int} {j : Nat} {v : Int} (hf : 1 ≤ f ∧ f + (j : Int) ≤ 9223372036854775807) (h : IsMin (HH f g j) v) (hg : ∀ k, k < j → g k = true) : v = 0 := by
  rcases h with ⟨h, _⟩ | ⟨_, _, h, _⟩
  · exact h
  · obtain ⟨k, _, hk, hb⟩ := HH_inv h
    rw [hg k hk] at hb; cases hb
theorem min_some {f : Int} {j k : Nat} {v : Int} (hf : 1 ≤ f ∧ f + (j : Int) ≤ 9223372036854775807) (h : IsMin (HH f g j) v) (hk : k < j) (hg : g k = false) (hm : ∀ i, i < k → g i = true) : v = f + (k : Int) := by
  have hR : InR (f + (k : Int)) := ⟨by omega, by omega⟩
  have ht : HH f g j (f + (k : Int)) = true := by rw [HH_at hk, hg]; rfl
  rcases h with ⟨_, h⟩ | ⟨_, _, h, hl⟩
  · rw [h _ hR] at ht; cases ht
  · obtain ⟨i, rfl, hi, hb⟩ := HH_inv h
    have := hl _ hR ht
    by_cases hik : i < k
    · rw [hm i hik] at hb; cases hb
    · omega
end
/-- Open. -/
theorem lo_open {n : Nat} {E : Nat → Prop} {w : World} {B M : Nat} {D : Dv} {base first : Int} {sz : Nat} {xs : List En} {g m : Nat → Bool} (hW : DevW n E w B D) (h : Harmd D ⟨base, sz, first, xs.length⟩ xs g m M) (hM : M ≤ 4096) (hn : n ≤ w.heap.size) (ht : ∀ x, Below n w x → Tabs x) :
    Calls Tryd.prog 26 #[.pointer (some ⟨B, 0, none⟩), .int .i64 base, .int .i64 sz, .int .i64 first] w fun e w' => ∃ b bt bd D', e = .returned (.tuple #[.pointer (some ⟨b, 0, none⟩), .int .i64 0]) ∧
      LogW n (fun k => E k ∨ k = b ∨ k = bt ∨ k = bd) w' b B bt bd D' ⟨base, sz, first, xs.length⟩ 10000 (TT first xs g m xs.length) (HH first g xs.length) ∧ Harmd D' ⟨base, sz, first, xs.length⟩ xs g (fun k => m k || g k) M ∧ Freed ⟨base, sz, first, xs.length⟩ (cont D') ∧ (Unsp D → Unsp D') ∧
      Below n w w' ∧ Kept E w w' ∧ w.heap.size ≤ b := by
  obtain ⟨D', e1, e2, c, hl, lay, fr⟩ := open_math (sz := sz) h.geo h.len h.calm h.ents h.lay rfl h.stop
  have hb := h.geo.base; have hs := h.geo.size; have hr := h.geo.room; have hf1 := h.ents.first; have hhi := h.ents.high; have hfi := h.ents.fits
  have hle := h.len
  simp only at hb hs hr hf1 hhi hfi
  have hst : Stop ⟨base, sz, first, xs.length⟩ (cont D') xs := fun hlt => by
    have : (xs.length : Int) < (sz : Int) := hlt
    exact (fr _ (by show first + (xs.length : Int) ≤ first + (xs.length : Int); omega) (by show first + (xs.length : Int) < first + (sz : Int); omega)).gone
  refine (popen_any base first sz hW hn ht (by rw [h.calm.writes]; decide) ⟨⟨by omega, by show (sz : Int) ≤ 4096; omega⟩, ⟨hb, by show base ≤ 4096; omega⟩, ⟨hf1, by show first ≤ _; omega⟩, ⟨Int.le_refl 0, by show (0 : Int) ≤ (sz : Int); omega⟩⟩ ?_ (by omega) (fun i => lgread_inR D _ i) ⟨xs.length, TT first xs g m xs.length, HH first g xs.length, MM xs g m xs.length⟩ ?_ (by show xs.length ≤ sz; omega) ?_ ?_ (0, D') e2.symm).mono ?_
  · unfold fitsF
    rw [Int.tdiv_eq_ediv_of_nonneg (by omega)]
    simp only [decide_eq_true_eq]
    refine ⟨hb, by omega, by omega⟩
  · rw [← ld_count D ⟨base, sz, first, 0⟩ (xs.length : Int)]
    exact e1
  · intro r hr'
    obtain ⟨k, x, _, hx, _, _, rfl⟩ := (mem_MM _).1 hr'
    have := (h.ents.at hx).2.2.1
    show 0 ≤ x.index
    omega
  · have := MM_length (xs := xs) (g := g) (m := m) xs.length
    show (MM xs g m xs.length).length ≤ 10000
    omega
  · rintro e w' ⟨b, bt, bd, rfl, W, hbl, hk, hsz⟩
    exact ⟨b, bt, bd, D', rfl, W, ⟨h.geo, hl, c, h.ents, lay, hst⟩, fr, (fun hu => by have := unsp_stab.opn ⟨base, sz, first, xs.length⟩ xs.length (MM xs g m xs.length) hu; rw [e2] at this; exact this), hbl, hk, hsz⟩
theorem lw_open {n : Nat} {E : Nat → Prop} {w : World} {B M : Nat} {D : Dv} {base first : Int} {sz : Nat} {xs : List En} (hW : DevW n E w B D) (h : Neat D ⟨base, sz, first, xs.length⟩ xs M) (hM : M ≤ 4096) (hn : n ≤ w.heap.size) (ht : ∀ x, Below n w x → Tabs x) :
    Calls Tryd.prog 26 #[.pointer (some ⟨B, 0, none⟩), .int .i64 base, .int .i64 sz, .int .i64 first] w fun e w' => ∃ b bt bd D', e = .returned (.tuple #[.pointer (some ⟨b, 0, none⟩), .int .i64 0]) ∧
      Lw n (fun k => E k ∨ k = b ∨ k = bt ∨ k = bd) w' b B bt bd M base sz first xs 10000 D' ∧ (Unsp D → Unsp D') ∧ Below n w w' ∧ Kept E w w' ∧ w.heap.size ≤ b := by
  refine (lo_open hW h.harmd hM hn ht).mono ?_
  rintro e w' ⟨b, bt, bd, D', rfl, W, H, fr, hu, hb, hk, hs⟩
  rw [HH_yes] at W
  exact ⟨b, bt, bd, D', rfl, ⟨_, W, ⟨H.geo, H.len, H.calm, H.ents, H.lay, fr⟩, TT_sane first xs⟩, hu, hb, hk, hs⟩
end
section
open Go.RowKit
set_option linter.unusedVariables false
set_option maxRecDepth 100000

theorem eq_en (a b : En) (B : Bool) (hB : B = true ↔ a = b) (W : World) : (binOp .eql 60 (enV a) (enV b)).run Tryd.prog W = .ok (.bool B) W := by
  obtain ⟨i, t, d⟩ := a
  obtain ⟨i', t', d'⟩ := b
  have hF : ¬ ((⟨i, t, d⟩ : En) = ⟨i', t', d'⟩) → B = false := fun h => by rw [← Bool.not_eq_true, hB]; exact h
  unfold enV
  by_cases h2 : i = i'
  · by_cases h3 : t = t'
    · by_cases h4 : d = d'
      · subst h2 h3 h4
        rw [hB.2 rfl]
        simp [go_sem]
      · have h4' : (d.toList == d'.toList) = false := by
          rw [beq_eq_false_iff_ne, ByteArray.toList_eq, ByteArray.toList_eq]
          exact fun e => h4 (ByteArray.ext (Array.toList_inj.1 e))
        subst h2 h3
        rw [hF (fun e => h4 (En.mk.inj e).2.2)]
        simp [go_sem, h4']
    · subst h2
      rw [hF (fun e => h3 (En.mk.inj e).2.1)]
      simp [go_sem, h3]
  · rw [hF (fun e => h2 (En.mk.inj e).1)]
    simp [go_sem, h2]
section
variable {n : Nat} {E : Nat → Prop} {w : World} {b B bt bd M k : Nat} {base size first : Int} {xs : List En} {D : Dv} {L : Lg} {T : Int → Option Int} {S : Int → Bool} {g m : Nat → Bool}
theorem LogW.alloc (h : LogW n E w b B bt bd D L k T S) (o : Obj) : LogW n (fun j => E j ∨ j = w.heap.size) (w.alloc o) b B bt bd D L k T S := by
  have hb := (Below.refl w.heap.size w).alloc (Nat.le_refl _) o
  exact ⟨h.dev.alloc o, h.log.below hb, h.terms.below hb, h.hurts.below hb, .inl h.eb, .inl h.et, .inl h.ed, h.nb, h.nt, h.nd, h.bt_ne, h.bd_ne, h.td_ne⟩
theorem ens_one (F : Nat → Prop) (w : World) (x : En) (hF : F w.heap.size) : EnS F (w.alloc (.cells #[.int .i64 x.index, .int .i64 x.term, .string x.data] 60)) (.slice (some ⟨w.heap.size, 0, none⟩) 1 1) [x] := by
  have h := EnB.new w x
  refine ⟨_, 1, rfl, by simp, .inr ⟨w.heap.size, rfl, hF, by simp, fun j y hy => ?_⟩⟩
  rcases j with _ | j
  · obtain rfl : x = y := by simpa using hy
    obtain ⟨⟨a, b, c⟩, _⟩ := h.cells
    exact ⟨a, b, c⟩
  · simp at hy
theorem lw_append1 (h : Lw n E w b B bt bd M base size first xs k D) (hM : M ≤ 4096) (x : En) (hx : x.index = first + (xs.length : Int)) (ho : x.ok = true) (hr : (xs.length : Int) + 1 ≤ size) (hn : n ≤ w.heap.size) (ht : ∀ x, Below n w x → Tabs x) (hk : k < 900000000) :
    Calls Tryd.prog 37 #[.pointer (some ⟨b, 0, none⟩), .slice (some ⟨w.heap.size, 0, none⟩) 1 1] (w.alloc (.cells #[.int .i64 x.index, .int .i64 x.term, .string x.data] 60)) fun e w' => e = .returned (.int .i64 0) ∧ (∃ D', Lw n E w' b B bt bd M base size first (xs ++ [x]) (k + 1) D' ∧ (Unsp D → Unsp D')) ∧ Below n w w' ∧ Kept (But E b bt bd) w w' := by
  obtain ⟨T, hW, hN, hS⟩ := h
  have hb := (Below.refl n w).alloc hn (.cells #[.int .i64 x.index, .int .i64 x.term, .string x.data] 60)
  have hb' := (Below.refl w.heap.size w).alloc (Nat.le_refl _) (.cells #[.int .i64 x.index, .int .i64 x.term, .string x.data] 60)
  have h1 := hW.log.lt
  have h2 := hW.terms.lt
  have h3 := hW.hurts.lt
  refine (lw_append ⟨T, hW.alloc _, hN, hS⟩ hM _ [x] (ens_one _ w x ⟨.inr rfl, by omega, by omega, by omega⟩) (fun j y hy => ?_) (by simpa using hr) (Nat.le_trans hn hb.size) (fun y hy => ht y (hb.trans hy)) hk).mono ?_
  · rcases j with _ | j
    · obtain rfl : x = y := by simpa using hy
      exact ⟨by simpa using hx, ho⟩
    · simp at hy
  · rintro e w' ⟨rfl, ⟨D', ⟨T', hW', hN', hS'⟩, hu⟩, hbl, hk'⟩
    refine ⟨rfl, ⟨D', ⟨T', hW'.less (fun j hj => .inl hj) hW.eb hW.et hW.ed, hN', hS'⟩, hu⟩, hb.trans hbl, (Kept.of_below (But.lt hW) hb').trans (hk'.mono (fun j hj => ⟨.inl hj.1, hj.2⟩))⟩
theorem TT_inR {f : Int} {j : Nat} (ho : ∀ x ∈ xs, x.ok = true) : ∀ z t, TT f xs g m j z = some t → InR t := by
  intro z t h
  unfold TT tk at h
  split at h
  · split at h
    · cases hx : xs[(z - f).toNat]? with
      | none => rw [hx] at h; cases h
      | some x =>
        rw [hx] at h
        obtain rfl : x.term = t := by simpa using h
        have := En.okP (ho x (List.mem_of_getElem? hx))
        exact ⟨by omega, by omega⟩
    · cases h
  · cases h
theorem TT_at {f : Int} {j : Nat} {i : Int} {x : En} (hx : xs[j]? = some x) (hi : i = f + (j : Int)) : TT f xs g m xs.length i = if g j = true ∨ m j = true then some x.term else none := by
  have := (List.getElem?_eq_some_iff.1 hx).1
  subst hi
  unfold TT
  rw [if_pos (by omega), show (f + (j : Int) - f).toNat = j by omega]
  unfold tk
  rw [hx]
  rfl
/-- Read, of a log whose damage is known. -/
theorem lo_read (hW : LogW n E w b B bt bd D ⟨base, size, first, xs.length⟩ k T (HH first g xs.length)) (h : Harmd D ⟨base, size, first, xs.length⟩ xs g m M) (hM : M ≤ 4096) (j : Nat) (x : En) (hx : xs[j]? = some x) (i : Int) (hi : i = first + (j : Int)) (V : En × Int) (hV : V = getE (if g j = true then entR x else rc0) (T i) i)
    (hg : g j = true → T i = none ∨ T i = some x.term) (hTR : ∀ z t, T z = some t → InR t) (hn : n ≤ w.heap.size) (ht : ∀ x, Below n w x → Tabs x) (hk : k < 900000000) :
    Calls Tryd.prog 24 #[.pointer (some ⟨b, 0, none⟩), .int .i64 i] w fun e w' => e = .returned (lgetV V) ∧ LogW n E w' b B bt bd D ⟨base, size, first, xs.length⟩ (k + 1) T (HH first g xs.length) ∧ Below n w w' ∧ Kept (But E b bt bd) w w' := by

  have hxi_lt := (h.ents.at hx).1
  have hxi := (h.ents.at hx).2
  simp only at hxi
  have hix : i = x.index := by omega
  have hl := lread_in h.geo h.len h.calm.toLive h.ents h.lay T hx
  have hfi := h.ents.fits
  have hs := h.geo.size
  have hr := h.geo.room
  have hb := h.geo.base
  have hf1 := h.ents.first
  have hhi := h.ents.high
  simp only at hfi hs hr hb hf1 hhi
  rw [hix] at hV hg
  refine (pget_to i V (HH first g xs.length) (by rw [hix, hV, hl]) ?_ hW hn ht (by rw [h.calm.writes]; decide) ⟨⟨hs, by show size ≤ _; omega⟩, ⟨hb, by show base ≤ _; omega⟩, ⟨hf1, by show first ≤ _; omega⟩, ⟨by show (0 : Int) ≤ (xs.length : Int); omega, hfi⟩⟩ (by omega) (by omega) hTR).mono ?_
  · cases hgj : g j with
    | true =>
      rw [hV, hgj, if_pos (show true = true from rfl), getE_good (hg hgj), if_neg (show ¬ (2 : Int) ≤ 1 by decide)]
    | false =>
      have ht : HH first g xs.length (first + (j : Int)) = true := by rw [HH_at hxi_lt, hgj]; rfl
      split
      · funext z
        unfold ups
        split
        · rename_i e; rw [e, hi, ht]
        · rfl
      · rfl
  · rintro e w' ⟨rfl, W, hb, hk'⟩
    exact ⟨rfl, W, hb, hk'⟩
end
end
section
open Go.RowKit
set_option linter.unusedVariables false
set_option maxRecDepth 100000

theorem ht_of {w x : World} (h : ∀ x, Below w.heap.size w x → Tabs x) (hb : Below w.heap.size w x) : ∀ y, Below w.heap.size x y → Tabs y := fun y hy => h y (hb.trans hy)
/-- Law 6's example entry. -/
def enX : En := ⟨1, 4, ⟨#[120]⟩⟩
theorem run_en3 (W : World) (a b : Int) (s : ByteArray) : (Instr.build 60 #[(0, .int .i64 a), (1, .int .i64 b), (2, .string s)]).run Tryd.prog W = .ok (.agg #[.int .i64 a, .int .i64 b, .string s]) W := by go_simp
section
variable {n : Nat} {E : Nat → Prop} {w : World} {b B bt bd M k : Nat} {base size first : Int} {xs : List En} {D : Dv} {T : Int → Option Int} {S : Int → Bool} {g : Nat → Bool}
theorem lo_hurt (hW : LogW n E w b B bt bd D ⟨base, size, first, xs.length⟩ k T (HH first g xs.length)) (hf : 1 ≤ first ∧ first + (xs.length : Int) ≤ 9223372036854775807) (m : Int) (hm : (m = 0 ∧ ∀ i, i < xs.length → g i = true) ∨ ∃ i, i < xs.length ∧ g i = false ∧ (∀ j, j < i → g j = true) ∧ m = first + (i : Int)) (W : World) (hb : Below w.heap.size w W) :
    Calls Tryd.prog 25 #[.pointer (some ⟨b, 0, none⟩)] W fun e w' => e = .returned (.int .i64 m) ∧ Below W.heap.size W w' := by
  refine (phurt_any (hW.log.below hb) (hW.hurts.below hb) (fun z _ h => by obtain ⟨k, hk, _⟩ := HH_inv h; omega)).mono ?_
  rintro e w' ⟨v, rfl, hv, hbl⟩
  refine ⟨?_, hbl⟩
  rcases hm with ⟨rfl, hg⟩ | ⟨i, h1, h2, h3, rfl⟩
  · rw [min_none hf hv hg]
  · rw [min_some hf hv h1 h2 h3]
theorem lo_last (hW : LogW n E w b B bt bd D ⟨base, size, first, xs.length⟩ k T S) (hf : 1 ≤ first ∧ first ≤ 4611686018427387) (hl : xs.length ≤ 4096) (m : Int) (hm : m = first + (xs.length : Int) - 1) (W : World) (hb : Below w.heap.size w W) :
    Calls Tryd.prog 27 #[.pointer (some ⟨b, 0, none⟩)] W fun e w' => e = .returned (.int .i64 m) ∧ Below W.heap.size W w' := by
  refine (plast_any (hW.log.below hb) ⟨by show _ ≤ first; omega, by show first ≤ _; omega⟩ ⟨by show (0 : Int) ≤ (xs.length : Int); omega, by show (xs.length : Int) ≤ _; omega⟩).mono ?_
  intro e w' hh
  rw [hm]
  exact hh
end
set_option maxHeartbeats 4000000 in
theorem phead_any (w : World) (hT : ∀ x, Below w.heap.size w x → Tabs x) : Calls Tryd.prog 18 #[] w fun e w' => e = .returned (.bool true) ∧ Below w.heap.size w w' := by
  have HT := Lib.hid hT
  clear hT
  go_enter Tryd.func18, Tryd.ntmps18
  go_wp2_with fail
  refine (new_any 20 w).mono ?_
  rintro e w1 ⟨B, rfl, hd, hb1⟩
  have X1 : DevW w.heap.size (fun _ => False) w1 B (Dv.new ((20 : Nat) : Int)) := devw_new hd (Nat.le_refl _) (fun j hj => hj.elim) hb1.size
  clear hd
  go_wp2_with fail
  refine (lw_open (base := 2) (sz := 8) (first := 1) (xs := []) (M := 20) X1 (neat_new (by decide) (by decide) (by decide) (by decide) (by decide) (by decide)) (by decide) hb1.size (ht_of HT.out hb1)).mono ?_
  rintro e w2 ⟨b, bt, bd, D2, rfl, W2, _, hb2, hk2, hs2⟩
  have B2 := hb1.trans hb2
  clear X1 hb1 hb2 hk2 hs2
  go_wp2_with fail
  refine (lw_append1 W2 (by decide) enX rfl rfl (by decide) B2.size (ht_of HT.out B2) (by decide)).mono ?_
  rintro e w3 ⟨rfl, ⟨D3, W3, _⟩, hb3, hk3⟩
  have B3 := B2.trans hb3
  clear hb3 hk3 W2 B2
  have X3 := W3.dev
  have H3 := (W3.neat.harmd).lose2 (j := 0) (x := enX) rfl
  have N3 := W3.neat
  go_wp2_with fail
  refine (devw_lose 3 B3.size X3).mono ?_
  rintro e w4 ⟨rfl, X4, hb4, hk4⟩
  have B4 := B3.trans hb4
  clear hb4 hk4 X3 W3 B3
  go_wp2_with fail
  refine (lo_open (base := 2) (sz := 8) (first := 1) (xs := [enX]) (M := 20) X4 H3 (by decide) B4.size (ht_of HT.out B4)).mono ?_
  rintro e w5 ⟨c, ct, cd, D5, rfl, W5, H5, fr, _, hb5, hk5, hs5⟩
  have B5 := B4.trans hb5
  clear hb5 hk5 hs5 X4 B4 H3 N3 fr
  go_wp2_with fail
  refine (lo_read W5 H5 (by decide) 0 enX rfl 1 rfl (⟨1, 4, ⟨#[]⟩⟩, 2) ?_ (fun h => by cases h) (TT_inR H5.ents.ok) B5.size (ht_of HT.out B5) (by decide)).mono ?_
  · rw [TT_at (f := 1) (i := 1) (xs := [enX]) (j := 0) (x := enX) rfl (by decide)]
    exact getE_hurt.symm
  rintro e w6 ⟨rfl, W6, hb6, hk6⟩
  have B6 := B5.trans hb6
  clear hb6 hk6 W5 B5 H5
  have HH6 := Lib.hid (lo_hurt W6 (by decide) 1 (.inr ⟨0, by decide, rfl, fun i hi => absurd hi (Nat.not_lt_zero i), rfl⟩))
  have HL6 := Lib.hid (lo_last W6 (by decide) (by decide) 1 (by decide))
  have bA := (Below.refl w6.heap.size w6).alloc (Nat.le_refl _) (.cells #[.int .i64 1, .int .i64 4, .string ⟨#[]⟩] 60)
  unfold lgetV enV
  go_wp2_with fail
  refine (HH6.out _ bA).mono ?_
  rintro e w7 ⟨rfl, hb7⟩
  have b7 := bA.trans (hb7.mono bA.size)
  go_wp2_with fail
  refine (HL6.out _ b7).mono ?_
  rintro e w8 ⟨rfl, hb8⟩
  have b8 := b7.trans (hb8.mono b7.size)
  go_wp2_with fail
  go_ret
  exact ⟨rfl, B6.trans (b8.mono B6.size)⟩
/-- The law's World. -/
def WldB (w : World) (wb B b : Nat) (f : Int) (va vm : Value) : Prop :=
  w.heap[wb]? = some (.cells #[.pointer (some ⟨B, 0, none⟩), .pointer (some ⟨b, 0, none⟩), .int .i64 f, va, vm] 52 (0, 0))
section
variable {w w' : World} {wb B b : Nat} {f : Int} {va vm : Value}
theorem WldB.lt (h : WldB w wb B b f va vm) : wb < w.heap.size := lt_of_block h
theorem WldB.below (h : WldB w wb B b f va vm) (k : Below w.heap.size w w') : WldB w' wb B b f va vm := (k.block wb h.lt).trans h
theorem WldB.keep {E : Nat → Prop} (h : WldB w wb B b f va vm) (k : Kept E w w') (hb : E wb) : WldB w' wb B b f va vm := (k wb hb).trans h
theorem WldB.cells (h : WldB w wb B b f va vm) :
    (w.cell? ⟨wb, 0, none⟩ = some (.pointer (some ⟨B, 0, none⟩)) ∧ w.cell? ⟨wb, 1, none⟩ = some (.pointer (some ⟨b, 0, none⟩)) ∧ w.cell? ⟨wb, 2, none⟩ = some (.int .i64 f) ∧ w.cell? ⟨wb, 3, none⟩ = some va ∧ w.cell? ⟨wb, 4, none⟩ = some vm) ∧
    w.frozen? ⟨wb, 0, none⟩ = false ∧ w.frozen? ⟨wb, 1, none⟩ = false ∧ w.frozen? ⟨wb, 2, none⟩ = false ∧ w.frozen? ⟨wb, 3, none⟩ = false ∧ w.frozen? ⟨wb, 4, none⟩ = false :=
  ⟨⟨cell_of h rfl, cell_of h rfl, cell_of h rfl, cell_of h rfl, cell_of h rfl⟩, free_of h, free_of h, free_of h, free_of h, free_of h⟩
theorem WldB.setDev (h : WldB w wb B b f va vm) (c : Nat) : WldB (w.setCell ⟨wb, 0, none⟩ (.pointer (some ⟨c, 0, none⟩))) wb c b f va vm := block_setCell (i := 0) h
theorem WldB.setLog (h : WldB w wb B b f va vm) (c : Nat) : WldB (w.setCell ⟨wb, 1, none⟩ (.pointer (some ⟨c, 0, none⟩))) wb B c f va vm := block_setCell (i := 1) h
theorem WldB.setFirst (h : WldB w wb B b f va vm) (c : Int) : WldB (w.setCell ⟨wb, 2, none⟩ (.int .i64 c)) wb B b c va vm := block_setCell (i := 2) h
theorem WldB.setAll (h : WldB w wb B b f va vm) (c : Value) : WldB (w.setCell ⟨wb, 3, none⟩ c) wb B b f c vm := block_setCell (i := 3) h
theorem WldB.setMaybe (h : WldB w wb B b f va vm) (c : Value) : WldB (w.setCell ⟨wb, 4, none⟩ c) wb B b f va c := block_setCell (i := 4) h
end
theorem MapI.not_cells {w : World} {b k : Nat} {T : Int → Option Int} (h : MapI w b k T) {c : Nat} {vs : Array Value} {t : TypeId} {m : Nat × Nat} (hc : w.heap[c]? = some (.cells vs t m)) : c ≠ b := fun e => by
  obtain ⟨D, ⟨es, cl, hb, _⟩, _⟩ := h
  rw [e, hb] at hc
  cases hc
theorem SetI.not_cells {w : World} {b k : Nat} {S : Int → Bool} (h : SetI w b k S) {c : Nat} {vs : Array Value} {t : TypeId} {m : Nat × Nat} (hc : w.heap[c]? = some (.cells vs t m)) : c ≠ b := fun e => by
  obtain ⟨D, ⟨es, cl, hb, _⟩, _⟩ := h
  rw [e, hb] at hc
  cases hc
section
variable {n : Nat} {E : Nat → Prop} {w : World} {b B bt bd M k : Nat} {base size first : Int} {xs : List En} {D : Dv} {L : Lg} {T : Int → Option Int} {S : Int → Bool}
/-- A cell of a block that is not the log's. -/
theorem LogW.setOut (h : LogW n E w b B bt bd D L k T S) {c : Nat} (hp : But E b bt bd c) (hn : n ≤ c) (i : Nat) (v : Value) : LogW n E (w.setCell ⟨c, i, none⟩ v) b B bt bd D L k T S :=
  ⟨h.dev.setCell hp.1 hn v, (block_setCell_other (fun e => hp.2.1 e.symm)).trans h.log, h.terms.keep0 (block_setCell_other (fun e => hp.2.2.1 e.symm)), h.hurts.keep0 (block_setCell_other (fun e => hp.2.2.2 e.symm)), h.eb, h.et, h.ed, h.nb, h.nt, h.nd, h.bt_ne, h.bd_ne, h.td_ne⟩
theorem Lw.setOut (h : Lw n E w b B bt bd M base size first xs k D) {c : Nat} (hp : But E b bt bd c) (hn : n ≤ c) (i : Nat) (v : Value) : Lw n E (w.setCell ⟨c, i, none⟩ v) b B bt bd M base size first xs k D := by
  obtain ⟨T, h1, h2, h3⟩ := h; exact ⟨T, h1.setOut hp hn i v, h2, h3⟩
theorem Lw.but (h : Lw n E w b B bt bd M base size first xs k D) {c : Nat} (hc : E c) {vs : Array Value} {t : TypeId} {m : Nat × Nat} (hb : w.heap[c]? = some (.cells vs t m)) (hne : c ≠ b) : But E b bt bd c := by
  obtain ⟨T, h1, h2, h3⟩ := h; exact ⟨hc, hne, h1.terms.not_cells hb, h1.hurts.not_cells hb⟩
end
/-- What New answers. -/
def NewW (w : World) (e : Ending) (w' : World) : Prop := ∃ wb B b bt bd D E, e = .returned (.pointer (some ⟨wb, 0, none⟩)) ∧ Lw w.heap.size E w' b B bt bd 19 3 8 1 [] 10000 D ∧ Unsp D ∧ WldB w' wb B b 1 (.slice none 0 0) (.slice none 0 0) ∧ But E b bt bd wb ∧ w.heap.size ≤ wb ∧ Below w.heap.size w w'
set_option maxHeartbeats 4000000 in
theorem pnew_any (w : World) (hT : ∀ x, Below w.heap.size w x → Tabs x) : Calls Tryd.prog 20 #[] w (NewW w) := by
  have HT := Lib.hid hT
  clear hT
  go_enter Tryd.func20, Tryd.ntmps20
  go_wp2_with fail
  refine (new_any 19 w).mono ?_
  rintro e w1 ⟨B, rfl, hd, hb1⟩
  have X1 : DevW w.heap.size (fun _ => False) w1 B (Dv.new ((19 : Nat) : Int)) := devw_new hd (Nat.le_refl _) (fun j hj => hj.elim) hb1.size
  clear hd
  have X2 := X1.alloc (.cells #[.pointer (some ⟨B, 0, none⟩), .pointer none, .int .i64 1, .slice none 0 0, .slice none 0 0] 52)
  have B2 := hb1.alloc hb1.size (.cells #[.pointer (some ⟨B, 0, none⟩), .pointer none, .int .i64 1, .slice none 0 0, .slice none 0 0] 52)
  have hN := heap_alloc_new w1 (.cells #[.pointer (some ⟨B, 0, none⟩), .pointer none, .int .i64 1, .slice none 0 0, .slice none 0 0] 52)
  have c0 := cell_of (i := 0) hN rfl
  have hbn : w.heap.size ≤ w1.heap.size := hb1.size
  clear X1 hb1
  go_wp2_with fail
  refine (lw_open (base := 3) (sz := 8) (first := 1) (xs := []) (M := 19) X2 (neat_new (by decide) (by decide) (by decide) (by decide) (by decide) (by decide)) (by decide) B2.size (ht_of HT.out B2)).mono ?_
  rintro e w2 ⟨b, bt, bd, D2, rfl, W2, hu, hb2, hk2, hs2⟩
  have HU := Lib.hid (hu (unsp_new _))
  have hN2 := (hk2 w1.heap.size (.inr rfl)).trans hN
  have B3 := B2.trans hb2
  have hne : w1.heap.size ≠ b := by have := lt_of_block hN; omega
  have hB := W2.but (.inl (.inr rfl)) hN2 hne
  have c1 := cell_of (i := 1) hN2 rfl
  have f1 := free_of (i := 1) hN2
  have W3 := W2.setOut hB hbn 1 (.pointer (some ⟨b, 0, none⟩))
  have B4 := B3.setCell (p := ⟨w1.heap.size, 1, none⟩) hbn (.pointer (some ⟨b, 0, none⟩))
  have hN3 : WldB (w2.setCell ⟨w1.heap.size, 1, none⟩ (.pointer (some ⟨b, 0, none⟩))) w1.heap.size B b 1 (.slice none 0 0) (.slice none 0 0) := block_setCell (i := 1) hN2
  clear X2 hb2 hk2 hs2 hu B2 B3 c0 hne W2
  go_wp2_with fail
  go_ret
  exact ⟨w1.heap.size, B, b, bt, bd, D2, _, rfl, W3, HU.out, hN3, hB, hbn, B4⟩
end
end Go.Proofs.YtigebaaldikeaaaDoor
