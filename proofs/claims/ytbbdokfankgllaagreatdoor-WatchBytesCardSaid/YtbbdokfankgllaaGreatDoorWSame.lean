/- Same: a book and a model that are alike. No conditions beyond those in each statement. -/
import Derived.Test.YtbbdokfankgllaaGreatDoorWDo
namespace Go.Proofs.YtbbdokfankgllaaGreatDoor
open Go.RowKit Go.Maps Go.Shelf
set_option linter.unusedVariables false
set_option linter.unusedSimpArgs false
set_option maxRecDepth 100000

theorem eq_wan (y : Wa) (W : World) : (binOp .neq 49 (waV y) (waV y)).run Tryz.prog W = .ok (.bool false) W := by
  unfold waV
  simp [go_sem]
theorem eq_evn (y : Ev) (W : World) : (binOp .neq 54 (evV y) (evV y)).run Tryz.prog W = .ok (.bool false) W := by
  unfold evV
  simp [go_sem]
theorem filt_at {p : Ev → Bool} {L : List Ev} {j : Nat} {x : Ev} (h : L[j]? = some x) (hp : p x = true) : (L.filter p)[((L.take j).filter p).length]? = some x ∧ ((L.take j).filter p).length < (L.filter p).length := by
  have h1 : L = L.take j ++ x :: L.drop (j + 1) := by
    obtain ⟨h1, h2⟩ := List.getElem?_eq_some_iff.1 h
    rw [← h2, List.getElem_cons_drop, List.take_append_drop]
  have h2 : L.filter p = (L.take j).filter p ++ x :: (L.drop (j + 1)).filter p := by
    conv => lhs; rw [h1]
    rw [List.filter_append, List.filter_cons_of_pos hp]
  rw [h2]
  refine ⟨?_, by rw [List.length_append, List.length_cons]; omega⟩
  rw [List.getElem?_append_right (Nat.le_refl _), Nat.sub_self]; rfl
theorem run_lev (W : World) (g o : Nat) (y : Ev) (h0 : W.cell? ⟨g, o, none⟩ = some (.int .i64 y.ses)) (h1 : W.cell? ⟨g, o + 1, none⟩ = some (.int .i64 y.no)) (h2 : W.cell? ⟨g, o + 2, none⟩ = some (.string y.path)) (h3 : W.cell? ⟨g, o + 3, none⟩ = some (.int .i64 y.what)) (h4 : W.cell? ⟨g, o + 4, none⟩ = some (.int .i64 y.when)) : (Instr.loadAt 54 (.pointer (some ⟨g, o, none⟩))).run Tryz.prog W = .ok (evV y) W := by
  unfold evV
  go_simp
theorem run_eix (W : World) (g n c i : Nat) (h : i < n) (hn : n ≤ 100000) : (Instr.indexAt 29 (.slice (some ⟨g, 0, none⟩) n c) (.int .i64 (i : Int))).run Tryz.prog W = .ok (.pointer (some ⟨g, i * 5, none⟩)) W := by
  have h0 : (0 : Int) ≤ (i : Int) := by omega
  have h1 : (i : Int) < (n : Int) := by omega
  go_simp
theorem run_geqF (W : World) (x y : Int) (h : decide (y ≤ x) = false) (s1 s2 : Operand) : (do eqGuard .geq 3 s1 s2 (.int .i64 x) (.int .i64 y); binOp .geq 3 (.int .i64 x) (.int .i64 y) : Sem Value).run Tryz.prog W = .ok (.bool false) W := by go_simp
theorem run_neqE (W : World) (y : Ev) (s1 s2 : Operand) : (do eqGuard .neq 54 s1 s2 (evV y) (evV y); binOp .neq 54 (evV y) (evV y) : Sem Value).run Tryz.prog W = .ok (.bool false) W := by
  have h := eq_evn y W
  unfold evV at h ⊢
  go_simp
theorem gstep_lenE {Q : Exit → Act → World → Prop} {l : List Oper} {i : Nat} {o : Oper} {a : Act} {w : World} {K : Act → World → Prop} (ho : l[i]? = some o) (hw : WantedIs l a o true) (s : Operand) (hop : o.op = .call { callee := .builtin .len, args := #[s], argTypes := #[29] }) (p : Option Addr) (n c : Nat) (he : a.eval s = .slice p n c)
    (h : K (a.put o.dst (.int .i64 n)) w) : Step Tryz.prog l Q i K a w :=
  gstep_value ho hw _ w (by simp only [execOp, hop, resolve, List.map_toArray, List.map_cons, List.map_nil, he]; go_simp) h
def FSa (n ge fl ec yb : Nat) (y : Ev) : Nat → Value → Prop
  | 0, v => v = .int .i64 (n : Int)
  | 1, v => v = .slice (some ⟨ge, 0, none⟩) fl ec
  | 2, v => v = .int .i64 (fl : Int)
  | 3, v => v = .bool false
  | 4, v => v = .bool false
  | 5, v => v = .slice (some ⟨ge, 0, none⟩) fl ec
  | 6, v => v = .int .i64 (n : Int)
  | 7, v => v = .pointer (some ⟨ge, n * 5, none⟩)
  | 8, v => v = evV y
  | 9, v => v = evV y
  | 10, v => v = .bool false
  | _, _ => True
set_option maxHeartbeats 16000000 in
theorem same_any (base bb mb kk : Nat) (O : Nat → Prop) (Ws : List Wa) (Es : List Ev) (N : Int → Option Int) (w : World) (h : PairW w base bb mb kk O Ws Es N Ws Es N) (hl : Ws.length ≤ 40) (hle : Es.length ≤ 50000) :
    Calls Tryz.prog 12 #[.pointer (some ⟨bb, 0, none⟩), .pointer (some ⟨mb, 0, none⟩)] w fun e w' => e = .returned (.bool true) ∧ Below w.heap.size w w' := by
  obtain ⟨vw, ve, vm, k, c, uw, ue, um, k', c', hb, hm, _, _, _, _⟩ := h
  obtain ⟨ua, uc, rfl, hua, _⟩ := waV_form hm.ws
  obtain ⟨xa, xc, rfl, hxa, _⟩ := evV_form hm.es
  have HUA := Lib.hid hua
  have HXA := Lib.hid hxa
  have HB := Lib.hid hb
  have HM := Lib.hid hm
  have HW := Lib.hid (watches_any base bb vw ve vm Ws Es k c N w hb (by omega))
  clear hb hm hua hxa
  go_enter Tryz.func12, Tryz.ntmps12
  go_wp2_with fail
  refine HW.out.mono ?_
  rintro e w1 ⟨v1, rfl, hr1, b1⟩
  obtain ⟨ra, rc, rfl, hra, _⟩ := waV_form hr1
  obtain ⟨lo1, hlo1⟩ : ∃ lo1, lo1 = w.heap.size := ⟨_, rfl⟩
  have HR1 : Hid (WRow w1 lo1 (.slice ra Ws.length rc) Ws) := Lib.hid (by rw [hlo1]; exact hr1)
  have HRA := Lib.hid hra
  have HB1 := Lib.hid b1
  have x0 := (HM.out.below b1).c0
  have HM1 := Lib.hid (HM.out.below b1)
  have HK1 := Lib.hid (HB.out.below b1)
  clear hr1 hra b1 HW hlo1 HM HB
  go_wp2_with fail
  go_loopw [24] (fun iv wr => ∃ i : Nat, i ≤ Ws.length ∧ iv = .int .i64 i ∧ Hid (Below w1.heap.size w1 wr)) (fun iv _ => Ws.length - (intOf iv).toNat)
  case atStart => exact ⟨0, by omega, rfl, Lib.hid (Below.refl _ _)⟩
  case round =>
    obtain ⟨i, hi, rfl, HBR⟩ := hrel
    clear x0
    by_cases hlt : i < Ws.length
    · have hlt2 : decide ((i : Int) < (Ws.length : Int)) = true := by simp; omega
      have t3 : IntKind.i64.wrap ((i : Int) + 1) = (i : Int) + 1 := IntWalk.i64_in _ (by omega)
      have hi0 : (0 : Int) ≤ (i : Int) := by omega
      have hii : (i : Int) < (Ws.length : Int) := by omega
      obtain ⟨y, hy⟩ : ∃ y, Ws[i]? = some y := ⟨Ws[i], by simp [hlt]⟩
      obtain ⟨ge, rfl, _, _⟩ := HRA.out (by omega)
      obtain ⟨gw, rfl, _, _⟩ := HUA.out (by omega)
      have hr := HR1.out.below HBR.out
      have hmw := HM1.out.below HBR.out
      have a0 := waC0 hr hy rfl
      have a1 := waC1 hr hy rfl
      have a2 := waC2 hr hy rfl
      have a3 := waC3 hr hy rfl
      have d0 := waC0 hmw.ws hy rfl
      have d1 := waC1 hmw.ws hy rfl
      have d2 := waC2 hmw.ws hy rfl
      have d3 := waC3 hmw.ws hy rfl
      have y0 := hmw.c0
      have heq : ∀ W : World, (binOp .neq 49 (.agg #[.int .i64 y.ses, .string y.path, .bool y.kids, .bool y.once]) (.agg #[.int .i64 y.ses, .string y.path, .bool y.kids, .bool y.once])).run Tryz.prog W = .ok (.bool false) W := eq_wan y
      clear hy hr hmw
      go_upto_region 7 with fail
      go_quiet (fail)
      have b9 : Below wr.heap.size wr (wr.drewN nq) := below_drewN (Below.refl _ wr) nq
      have HB5 : Hid (Below w1.heap.size w1 (wr.drewN nq)) := Lib.hid (HBR.out.trans (b9.mono HBR.out.size))
      obtain ⟨w9, hw9⟩ : ∃ w9, w9 = wr.drewN nq := ⟨_, rfl⟩
      rw [← hw9] at HB5 ⊢
      clear hw9 b9 heq a0 a1 a2 a3 d0 d1 d2 d3 y0 HBR
      go_wp2_with fail
      go_roundw
      case rel => exact ⟨i + 1, by omega, by go_num, HB5⟩
      case measure => simp [intOf]; omega
    · have hlt2 : decide ((i : Int) < (Ws.length : Int)) = false := by simp; omega
      have HB2 := HBR
      clear HBR
      go_wp2_with fail
      clear hlt hi
      go_loopw [7] (fun sv wx => ∃ s : Nat, s ≤ 9 ∧ sv = .int .i64 s ∧ Hid (Below w1.heap.size w1 wx)) (fun sv _ => 9 - (intOf sv).toNat)
      case atStart => exact ⟨0, by omega, rfl, HB2⟩
      case round =>
        obtain ⟨s, hs, rfl, HBS⟩ := hrel
        clear HB2 hlt2
        by_cases hs9 : s < 9
        · have hs2 : decide ((s : Int) < 9) = true := by simp; omega
          have ts : IntKind.i64.wrap ((s : Int) + 1) = (s : Int) + 1 := IntWalk.i64_in _ (by omega)
          have HE := Lib.hid (events_any base bb vw ve vm Ws Es k c N (s : Int) wr (HK1.out.below HBS.out) (by omega))
          go_wp2_with fail
          refine HE.out.mono ?_
          rintro e w8 ⟨v8, rfl, hr8, b8⟩
          obtain ⟨ea, ec, rfl, hea, _⟩ := evV_form hr8
          have HEA := Lib.hid hea
          obtain ⟨F, hF⟩ : ∃ F, F = Es.filter fun x => x.ses == (s : Int) := ⟨_, rfl⟩
          rw [← hF] at hr8 HEA ⊢
          obtain ⟨lo8, hlo8⟩ : ∃ lo8, lo8 = wr.heap.size := ⟨_, rfl⟩
          rw [← hlo8] at hr8
          have HR8 := Lib.hid hr8
          have HF := Lib.hid hF
          have HFL : Hid (F.length ≤ 50000) := Lib.hid (by rw [hF]; exact Nat.le_trans (List.length_filter_le ..) hle)
          have HB8 : Hid (Below w1.heap.size w1 w8) := Lib.hid (HBS.out.trans (b8.mono HBS.out.size))
          have x1 := (HM1.out.below HB8.out).c1
          clear hea hr8 b8 hF HE HBS hlo8
          go_wp2_with fail
          go_loopw [9, 52] (fun nv iv wx => ∃ (j n : Nat), j ≤ Es.length ∧ iv = .int .i64 j ∧ nv = .int .i64 n ∧ n ≤ j ∧ Hid (n = ((Es.take j).filter fun x => x.ses == (s : Int)).length) ∧ Hid (Below w8.heap.size w8 wx)) (fun _ iv _ => Es.length - (intOf iv).toNat)
          case atStart => exact ⟨0, 0, by omega, rfl, rfl, by omega, Lib.hid (by simp), Lib.hid (Below.refl _ _)⟩
          case round =>
            obtain ⟨j, n, hj, rfl, rfl, hnj, HN, HBX⟩ := hrel
            clear x1
            have HBT : Hid (Below w1.heap.size w1 wr) := Lib.hid (HB8.out.trans (HBX.out.mono HB8.out.size))
            by_cases hlj : j < Es.length
            · have hlj2 : decide ((j : Int) < (Es.length : Int)) = true := by simp; omega
              have tj : IntKind.i64.wrap ((j : Int) + 1) = (j : Int) + 1 := IntWalk.i64_in _ (by omega)
              have tn : IntKind.i64.wrap ((n : Int) + 1) = (n : Int) + 1 := IntWalk.i64_in _ (by omega)
              have hj0 : (0 : Int) ≤ (j : Int) := by omega
              have hji : (j : Int) < (Es.length : Int) := by omega
              have hn0 : (0 : Int) ≤ (n : Int) := by omega
              obtain ⟨y, hy⟩ : ∃ y, Es[j]? = some y := ⟨Es[j], by simp [hlj]⟩
              obtain ⟨gx, rfl, _, _⟩ := HXA.out (by omega)
              have hmw := HM1.out.below HBT.out
              have d0 := evC0 hmw.es hy rfl
              have d1 := evC1 hmw.es hy rfl
              have d2 := evC2 hmw.es hy rfl
              have d3 := evC3 hmw.es hy rfl
              have d4 := evC4 hmw.es hy rfl
              have HY := Lib.hid hy
              have HSN := Lib.hid (filt_snoc (p := fun x => x.ses == (s : Int)) hy)
              clear hy hmw
              go_upto_region 18 with fail
              have NA : EvB (wr.alloc (.cells #[.int .i64 y.ses, .int .i64 y.no, .string y.path, .int .i64 y.what, .int .i64 y.when] 54)) wr.heap.size y := heap_alloc_new wr _
              have bA := (Below.refl wr.heap.size wr).alloc (Nat.le_refl _) (.cells #[.int .i64 y.ses, .int .i64 y.no, .string y.path, .int .i64 y.what, .int .i64 y.when] 54)
              obtain ⟨w5, hw5⟩ : ∃ w5, w5 = wr.alloc (.cells #[.int .i64 y.ses, .int .i64 y.no, .string y.path, .int .i64 y.what, .int .i64 y.when] 54) := ⟨_, rfl⟩
              obtain ⟨yb, hyb⟩ : ∃ yb, yb = wr.heap.size := ⟨_, rfl⟩
              rw [← hw5] at NA bA ⊢
              rw [← hyb] at NA ⊢
              have HB5 : Hid (Below w8.heap.size w8 w5) := Lib.hid (HBX.out.trans (bA.mono HBX.out.size))
              obtain ⟨q0, q1, q2, q3, q4⟩ := NA.cells
              clear hw5 hyb bA d0 d1 d2 d3 d4 HBX HBT NA
              by_cases hses : y.ses = (s : Int)
              · have e1 : (y.ses != (s : Int)) = false := by simp [hses]
                have hp : (y.ses == (s : Int)) = true := by simp [hses]
                obtain ⟨hat, hnl⟩ := filt_at (p := fun x => x.ses == (s : Int)) HY.out hp
                rw [← HN.out, ← HF.out] at hat hnl
                have HN2 : Hid (n + 1 = ((Es.take (j + 1)).filter fun x => x.ses == (s : Int)).length) := Lib.hid (by rw [HSN.out, hp, List.length_append, ← HN.out]; rfl)
                obtain ⟨ge, rfl, _, _⟩ := HEA.out (by omega)
                have hr := HR8.out.below HB5.out
                have a0 := evC0 hr hat rfl
                have a1 := evC1 hr hat rfl
                have a2 := evC2 hr hat rfl
                have a3 := evC3 hr hat rfl
                have a4 := evC4 hr hat rfl
                have hni : (n : Int) < (F.length : Int) := by omega
                have hge : decide ((F.length : Int) ≤ (n : Int)) = false := by simp; omega
                have heq : ∀ W : World, (binOp .neq 54 (.agg #[.int .i64 y.ses, .int .i64 y.no, .string y.path, .int .i64 y.what, .int .i64 y.when]) (.agg #[.int .i64 y.ses, .int .i64 y.no, .string y.path, .int .i64 y.what, .int .i64 y.when])).run Tryz.prog W = .ok (.bool false) W := eq_evn y
                clear hat hp hr hses hnl
                go_upto_region 19 with fail
                have b9 : Below w5.heap.size w5 w5.drew := (Below.refl _ w5).drew
                have HB9 : Hid (Below w8.heap.size w8 w5.drew) := Lib.hid (HB5.out.trans (b9.mono HB5.out.size))
                have HLA : Hid ((Instr.loadAt 54 (.pointer (some ⟨ge, n * 5, none⟩))).run Tryz.prog w5.drew = .ok (evV y) w5.drew) := Lib.hid (run_lev w5.drew ge (n * 5) y a0 a1 a2 a3 a4)
                have HLQ : Hid ((Instr.loadAt 54 (.pointer (some ⟨yb, 0, none⟩))).run Tryz.prog w5.drew = .ok (evV y) w5.drew) := Lib.hid (run_lev w5.drew yb 0 y q0 q1 q2 q3 q4)
                have HGE : Hid (decide ((F.length : Int) ≤ (n : Int)) = false) := Lib.hid hge
                have HNI : Hid (n < F.length) := Lib.hid (by omega)
                have HFL2 := HFL
                clear hge heq hn0 hni a0 a1 a2 a3 a4 q0 q1 q2 q3 q4 HB5 b9
                refine wp_region_inv_last 11 (IFJ (FSa n ge F.length ec yb y) (fun _ _ W => W = w5.drew)) (by kernel_rfl) (by kernel_rfl) (by kernel_rfl) (by kernel_rfl) (by kernel_rfl) ?_ ?_ ?_
                · intro z
                  exact ⟨fun j hj => (by cases hj), rfl⟩
                · intro i o hi ho b z w1 hI hbi hW
                  obtain rfl := hI.2
                  match i, ho with
                  | 0, ho =>
                    obtain rfl := Option.some.inj ho
                    exact gstep_move rfl (wanted0 rfl) _ rfl _ (eval_of 9 _ (by kernel_rfl) rfl) ⟨_, rfl, IFJ.step hI rfl rfl⟩
                  | 1, ho =>
                    obtain rfl := Option.some.inj ho
                    exact gstep_move rfl (wanted0 rfl) _ rfl _ (eval_of 8 _ (by kernel_rfl) rfl) ⟨_, rfl, IFJ.step hI rfl rfl⟩
                  | 2, ho =>
                    obtain rfl := Option.some.inj ho
                    exact gstep_lenE rfl (wanted0 rfl) _ rfl _ _ _ (eval_at 61 1 _ (by kernel_rfl) (show 61 < 79 by decide) (hI.1 1 (hW 1 (by kernel_rfl)))) ⟨_, rfl, IFJ.step hI rfl rfl⟩
                  | 3, ho =>
                    obtain rfl := Option.some.inj ho
                    exact gstep_bin rfl (wanted0 rfl) _ _ _ _ _ rfl _ _ (eval_at 60 0 _ (by kernel_rfl) (show 60 < 79 by decide) (hI.1 0 (hW 0 (by kernel_rfl)))) (eval_at 62 2 _ (by kernel_rfl) (show 62 < 79 by decide) (hI.1 2 (hW 2 (by kernel_rfl)))) _ (run_geqF _ _ _ HGE.out _ _) ⟨_, rfl, IFJ.step hI rfl rfl⟩
                  | 4, ho =>
                    obtain rfl := Option.some.inj ho
                    exact gstep_move rfl (wanted0 rfl) _ rfl _ (eval_at 63 3 _ (by kernel_rfl) (show 63 < 79 by decide) (hI.1 3 (hW 3 (by kernel_rfl)))) ⟨_, rfl, IFJ.step hI rfl rfl⟩
                  | 5, ho =>
                    obtain rfl := Option.some.inj ho
                    exact gstep_move rfl (wanted_at 64 4 false _ true rfl (by kernel_rfl) (show 64 < 79 by decide) (hI.1 4 (hW 4 (by kernel_rfl))) rfl) _ rfl _ (eval_of 8 _ (by kernel_rfl) rfl) ⟨_, rfl, IFJ.step hI rfl rfl⟩
                  | 6, ho =>
                    obtain rfl := Option.some.inj ho
                    exact gstep_move rfl (wanted_at 64 4 false _ true rfl (by kernel_rfl) (show 64 < 79 by decide) (hI.1 4 (hW 4 (by kernel_rfl))) rfl) _ rfl _ (eval_of 9 _ (by kernel_rfl) rfl) ⟨_, rfl, IFJ.step hI rfl rfl⟩
                  | 7, ho =>
                    obtain rfl := Option.some.inj ho
                    exact gstep_index rfl (wanted_at 64 4 false _ true rfl (by kernel_rfl) (show 64 < 79 by decide) (hI.1 4 (hW 4 (by kernel_rfl))) rfl) _ _ _ rfl _ _ (eval_at 65 5 _ (by kernel_rfl) (show 65 < 79 by decide) (hI.1 5 (hW 5 (by kernel_rfl)))) (eval_at 66 6 _ (by kernel_rfl) (show 66 < 79 by decide) (hI.1 6 (hW 6 (by kernel_rfl)))) _ (run_eix _ _ _ _ _ HNI.out (by have := HFL2.out; omega)) ⟨_, rfl, IFJ.step hI rfl rfl⟩
                  | 8, ho =>
                    obtain rfl := Option.some.inj ho
                    exact gstep_load rfl (wanted_at 64 4 false _ true rfl (by kernel_rfl) (show 64 < 79 by decide) (hI.1 4 (hW 4 (by kernel_rfl))) rfl) _ _ rfl _ (eval_at 67 7 _ (by kernel_rfl) (show 67 < 79 by decide) (hI.1 7 (hW 7 (by kernel_rfl)))) _ (HLA.out) ⟨_, rfl, IFJ.step hI rfl rfl⟩
                  | 9, ho =>
                    obtain rfl := Option.some.inj ho
                    exact gstep_load rfl (wanted_at 64 4 false _ true rfl (by kernel_rfl) (show 64 < 79 by decide) (hI.1 4 (hW 4 (by kernel_rfl))) rfl) _ _ rfl _ (eval_of 11 _ (by kernel_rfl) rfl) _ (HLQ.out) ⟨_, rfl, IFJ.step hI rfl rfl⟩
                  | 10, ho =>
                    obtain rfl := Option.some.inj ho
                    exact gstep_bin rfl (wanted_at 64 4 false _ true rfl (by kernel_rfl) (show 64 < 79 by decide) (hI.1 4 (hW 4 (by kernel_rfl))) rfl) _ _ _ _ _ rfl _ _ (eval_at 68 8 _ (by kernel_rfl) (show 68 < 79 by decide) (hI.1 8 (hW 8 (by kernel_rfl)))) (eval_at 69 9 _ (by kernel_rfl) (show 69 < 79 by decide) (hI.1 9 (hW 9 (by kernel_rfl)))) _ (run_neqE _ y _ _) ⟨_, rfl, IFJ.step hI rfl rfl⟩
                  | n + 11, ho => omega
                · intro o ho b z w1 hI hA
                  have hw1 := hI.2
                  obtain rfl := Option.some.inj ho
                  have hF4 : z 4 = .bool false := hI.1 4 (hA 4 (by decide))
                  have hF10 : z 10 = .bool false := hI.1 10 (hA 10 (by decide))
                  rw [hw1]
                  refine gstep_pick rfl (wanted0 rfl) _ _ _ rfl _ (eval_at 64 4 _ (by kernel_rfl) (show 64 < 79 by decide) hF4) (.bool false) (by rw [if_neg (by decide)]; exact (eval_at 70 10 _ (by kernel_rfl) (show 70 < 79 by decide) hF10)) ?_
                  simp only [putAll, Act.put, List.setIfInBounds_toArray, List.set_cons_succ, List.set_cons_zero]
                  clear hI hA hF4 hF10 hw1 HLA HLQ HGE HNI
                  obtain ⟨w9, hw9⟩ : ∃ w9, w9 = w5.drew := ⟨_, rfl⟩
                  rw [← hw9] at HB9 ⊢
                  clear hw9
                  go_wp2_with fail
                  go_roundw
                  case rel => exact ⟨j + 1, n + 1, by omega, by go_num, by go_num, by omega, HN2, HB9⟩
                  case measure => simp [intOf]; omega
              · have e1 : (y.ses != (s : Int)) = true := by simp [hses]
                have hp : (y.ses == (s : Int)) = false := by simp [hses]
                have HN2 : Hid (n = ((Es.take (j + 1)).filter fun x => x.ses == (s : Int)).length) := Lib.hid (by rw [HSN.out, hp, List.length_append, ← HN.out]; rfl)
                clear hp hses
                go_wp2_with fail
                go_roundw
                case rel => exact ⟨j + 1, n, by omega, by go_num, rfl, by omega, HN2, HB5⟩
                case measure => simp [intOf]; omega
            · have hlj2 : decide ((j : Int) < (Es.length : Int)) = false := by simp; omega
              have hnf : n = F.length := by
                have h1 := HN.out
                have h2 := HF.out
                rw [List.take_of_length_le (by omega)] at h1
                rw [h1, h2]
              subst hnf
              go_wp2_with fail
              go_roundw
              case rel => exact ⟨s + 1, by omega, by go_num, HBT⟩
              case measure => simp [intOf]; omega
        · have hs2 : decide ((s : Int) < 9) = false := by simp; omega
          go_wp2_with fail
          go_ret
          exact ⟨rfl, HB1.out.trans (HBS.out.mono HB1.out.size)⟩
end Go.Proofs.YtbbdokfankgllaaGreatDoor
