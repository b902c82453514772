/- plog.Mend. No conditions beyond those in each statement. -/
import Derived.Test.YtpkhhecmddpnmaaDoorPlogLo
import Derived.StillTailTactics
namespace Go.Proofs.YtpkhhecmddpnmaaDoor
open Go.RowKit
set_option linter.unusedVariables false
set_option maxRecDepth 100000

theorem run_loadM (W : World) (p : Addr) (c : Nat) (h : W.cell? p = some (.map (some c))) : (Instr.loadAt 57 (.pointer (some p))).run Tryd.prog W = .ok (.map (some c)) W := by go_simp
set_option maxHeartbeats 4000000 in
theorem pMend_any {n : Nat} {E : Nat → Prop} {w : World} {b B bt bd k : Nat} {D : Dv} {L : Lg} {T : Int → Option Int} {S : Int → Bool} (x : En) (hW : LogW n E w b B bt bd D L k T S) (hh : L.has x.index = true) (hok : x.ok = true) (hTx : T x.index = none ∨ T x.index = some x.term) (hn : n ≤ w.heap.size) (ht : ∀ x, Below n w x → Tabs x) (hw : D.writes ≤ 1071000000) (hf : L.Fit) (hfx : x.Fits) (hi : 0 ≤ x.index) (hk : k < 900000000) (V : Int × Dv) (hV : V = D.mendV L x) :
    Calls Tryd.prog 39 #[.pointer (some ⟨b, 0, none⟩), enV x] w fun e w' => e = .returned (.int .i64 V.1) ∧ (V.1 = 0 → LogW n E w' b B bt bd V.2 L (k + 1) (upd T x.index (some x.term)) (ups S x.index false)) ∧ DevW n E w' B V.2 ∧ Below n w w' ∧ Kept (But E b bt bd) w w' := by
  have hiR : InR x.index := hfx.index
  have htR : InR x.term := hfx.term
  have HIR := Lib.hid hiR
  have HTR := Lib.hid htR
  have N1 := EnB.new w x
  have B1 := (Below.refl _ w).alloc (Nat.le_refl _) (.cells #[.int .i64 x.index, .int .i64 x.term, .string x.data] 69)
  have W1 := hW.alloc (.cells #[.int .i64 x.index, .int .i64 x.term, .string x.data] 69)
  have HLT := Lib.hid (But.lt hW)
  have HH := Lib.hid (fun (W : World) (hb : Below w.heap.size w W) => phas_any x.index (hW.log.below hb) (by have := hf.first; omega) hiR.2)
  rw [hh] at HH
  have hdx := hfx.data
  have HVL := Lib.hid (fun (W : World) => pvalid_any x W hdx)
  rw [hok] at HVL
  have HM := Lib.hid (fun (W : World) (hX : LogW n (fun j => E j ∨ j = w.heap.size) W b B bt bd D L k T S) (hb : Below n w W) => pmendw_any x hX.dev hX.log hX.eb (Nat.le_trans hn hb.size) (fun y hy => ht y (hb.trans hy)) hw hf hi V hV)
  have HOWN := Lib.hid (show E b ∧ E bt ∧ E bd from ⟨hW.eb, hW.et, hW.ed⟩)
  have hne : w.heap.size ≠ b ∧ w.heap.size ≠ bt ∧ w.heap.size ≠ bd := ⟨Nat.ne_of_gt hW.log.lt, Nat.ne_of_gt hW.terms.lt, Nat.ne_of_gt hW.hurts.lt⟩
  have HNE := Lib.hid hne
  have HTX := Lib.hid hTx
  clear hW ht hf hV hh hok hfx hi hw hTx hdx hne hiR htR
  unfold enV at *
  go_enter Tryd.func39, Tryd.ntmps39
  go_upto_region 1 with fail
  generalize w.alloc (.cells #[.int .i64 x.index, .int .i64 x.term, .string x.data] 69) = w1 at N1 B1 W1 ⊢
  obtain ⟨⟨n0, n1, n2⟩, nz⟩ := N1.cells
  clear nz
  go_wp2_with fail
  refine (HH.out _ B1).mono ?_
  rintro e w2 ⟨rfl, hb2⟩
  have N2 := N1.below hb2
  have B2 := B1.trans (hb2.mono B1.size)
  have W2 := W1.below hb2
  clear N1 B1 W1 hb2 n0 n1 n2
  obtain ⟨⟨n0, n1, n2⟩, nz⟩ := N2.cells
  clear nz
  go_wp2_with fail
  refine (HVL.out _).mono ?_
  rintro e w3 ⟨rfl, hb3⟩
  have N3 := N2.below hb3
  have B3 := B2.trans (hb3.mono B2.size)
  have W3 := W2.below hb3
  clear N2 B2 W2 hb3 n0 n1 n2 HH HVL
  have hl3 : (Instr.lookup 57 (.map (some bt)) (.int .i64 x.index) true).run Tryd.prog w3 = .ok (.tuple #[.int .i64 ((T x.index).getD 0), .bool (T x.index).isSome]) w3 := W3.terms.look_ok HIR.out
  have hl3d : (Instr.lookup 57 (.map (some bt)) (.int .i64 x.index) true).run Tryd.prog w3.drew = .ok (.tuple #[.int .i64 ((T x.index).getD 0), .bool (T x.index).isSome]) w3.drew := W3.drew.terms.look_ok HIR.out
  have c5 := W3.log.cells.1.2.2.2.2.2.1
  obtain ⟨⟨n0, n1, n2⟩, nz⟩ := N3.cells
  clear nz
  generalize htx : T x.index = tx at hl3 hl3d
  have HTX2 : Hid (tx = none ∨ tx = some x.term) := by rw [← htx]; exact HTX.out
  clear htx HTX
  go_upto_region 3 with fail
  go_cut [5, 6] (fun t q wx => t = .int .i64 (tx.getD 0) ∧ q = .bool tx.isSome ∧ Below w3.heap.size w3 wx)
  case first =>
    go_region_held3 (fun w' => w'.cell? ⟨b, 5, none⟩ = some (.map (some bt)) ∧ w'.cell? ⟨w.heap.size, 0, none⟩ = some (.int .i64 x.index) ∧ (Instr.lookup 57 (.map (some bt)) (.int .i64 x.index) true).run Tryd.prog w' = .ok (.tuple #[.int .i64 (tx.getD 0), .bool tx.isSome]) w') (first | (with_reducible assumption) | (refine ⟨?_, ?_, ?_⟩ <;> with_reducible assumption) | go_keep) (fail)
    all_goals (go_wp2_with fail; go_meet)
    all_goals exact ⟨rfl, rfl, (Below.refl _ _).drew⟩
  case rest =>
    obtain ⟨rfl, rfl, hb4⟩ := hcut
    have N4 := N3.below hb4
    have B4 := B3.trans (hb4.mono B3.size)
    have W4 := W3.below hb4
    clear N3 B3 W3 hb4 n0 n1 n2 hl3 hl3d c5
    obtain ⟨⟨n0, n1, n2⟩, nz⟩ := N4.cells
    clear nz
    have hB4n := B4.mono hn
    have HM4 := Lib.hid (HM.out _ W4 hB4n)
    have hbxE : But (fun j => E j ∨ j = w.heap.size) b bt bd w.heap.size := ⟨.inr rfl, HNE.out⟩
    have HK4 : Hid (Kept (But E b bt bd) w wc) := Kept.of_below HLT.out B4
    have tail : tx = none ∨ tx = some x.term := HTX2.out
    clear HTX2
    rcases tail with rfl | rfl
    all_goals
      go_wp2_with fail
      refine HM4.out.mono ?_
      rintro e w5 ⟨rfl, X5, hb5, hk5⟩
      have W5 := W4.turn X5 hk5
      have N5 : EnB w5 w.heap.size x := N4.keep hk5 (.inr rfl)
      have B5 : Below n w w5 := hB4n.trans hb5
      have HK5 : Hid (Kept (But E b bt bd) w w5) := HK4.out.trans (hk5.mono (fun j hj => .inl hj.1))
      clear N4 W4 X5 hb5 hk5 n0 n1 n2 HM4 hB4n B4
      obtain ⟨⟨n0, n1, n2⟩, nz⟩ := N5.cells
      clear nz
      by_cases hv : V.1 = 0
      · have ev : (V.1 == 0) = true := by simpa using hv
        obtain ⟨w6, hr1, hT1, hg1⟩ := W5.drew.terms.store (Nat.lt_trans hk (by decide)) HIR.out HTR.out
        have W6 := W5.drew.newTerms hg1 hT1 (Nat.le_succ k)
        have N6 : EnB w6 w.heap.size x := (hg1.block _ N5.lt (fun e => HNE.out.2.1 (Option.some.inj e))).trans N5
        obtain ⟨w7, hr2, hS2, hg2⟩ := W6.drew.hurts.del HIR.out 0
        have W7 := W6.drew.newHurts hg2 hS2 (Nat.le_refl _)
        have N7 : EnB w7 w.heap.size x := (hg2.block _ N6.lt (fun e => HNE.out.2.2 (Option.some.inj e))).trans N6
        have hn5 : n ≤ w5.heap.size := Nat.le_trans hn B5.size
        have B6 := grown_below B5.drew hg1 W5.nt hn5
        have hn6 : n ≤ w6.heap.size := Nat.le_trans hn B6.size
        have B7 := grown_below B6.drew hg2 W6.nd hn6
        have HFIN : Hid (LogW n E w7 b B bt bd V.2 L (k + 1) (upd T x.index (some x.term)) (ups S x.index false) ∧ DevW n E w7 B V.2 ∧ Below n w w7 ∧ Kept (But E b bt bd) w w7) := by
          have hlog := W7.less (F := E) (fun j hj => .inl hj) HOWN.out.1 HOWN.out.2.1 HOWN.out.2.2
          refine ⟨hlog, hlog.dev, B7, ?_⟩
          have K6 : Kept (But E b bt bd) w w6 := Kept.grown (w := w5.drew) HK5.out hg1 (fun i hi => ⟨W5.dev.lt i (.inl hi.1), hi.2.2.1⟩)
          exact Kept.grown (w := w6.drew) K6 hg2 (fun i hi => ⟨W6.dev.lt i (.inl hi.1), hi.2.2.2⟩)
        have c5 := W5.log.cells.1.2.2.2.2.2.1
        have c65 := W6.log.cells.1.2.2.2.2.2.1
        have c6 := W6.log.cells.1.2.2.2.2.2.2
        have c76 := W7.log.cells.1.2.2.2.2.2.2
        obtain ⟨⟨p0, p1, p2⟩, pz⟩ := N6.cells
        obtain ⟨⟨r0, r1, r2⟩, rz⟩ := N7.cells
        clear pz rz hT1 hg1 hS2 hg2 W5 W6 W7 N5 N6 N7 B5 B6 B7 hn5 hn6 HK5 HK4 hv
        go_wp2_with fail
        go_region_held3 (fun w' => w'.cell? ⟨b, 5, none⟩ = some (.map (some bt)) ∧ w'.cell? ⟨w.heap.size, 0, none⟩ = some (.int .i64 x.index) ∧ w'.cell? ⟨w.heap.size, 1, none⟩ = some (.int .i64 x.term)) (first | (with_reducible assumption) | (refine ⟨?_, ?_, ?_⟩ <;> with_reducible assumption) | go_keep) (fail)
        go_wp2_with fail
        go_region_held3 (fun w' => w'.cell? ⟨b, 6, none⟩ = some (.map (some bd)) ∧ w'.cell? ⟨w.heap.size, 0, none⟩ = some (.int .i64 x.index)) (first | (with_reducible assumption) | (refine ⟨?_, ?_⟩ <;> with_reducible assumption) | go_keep) (fail)
        go_wp2_with fail
        go_ret
        exact ⟨by rw [show V.1 = 0 by simpa using ev]; rfl, fun _ => HFIN.out.1, HFIN.out.2⟩
      · have ev : (V.1 == 0) = false := by simpa using hv
        have HX := Lib.hid W5.dev
        clear W5 hv
        go_wp2_with fail
        go_ret
        exact ⟨rfl, fun h => absurd h (by simpa using ev), HX.out.less (fun j hj => .inl hj), B5, HK5.out⟩
end Go.Proofs.YtpkhhecmddpnmaaDoor
