/- Fire. No conditions beyond those in each statement. -/
import Derived.Test.YtbbdokfankgllaaGreatDoorWFr
import Derived.Laws.EntriesVeiled
namespace Go.Proofs.YtbbdokfankgllaaGreatDoor
open Go.RowKit Go.Maps Go.Shelf
set_option linter.unusedVariables false
set_option maxRecDepth 100000

section
variable {w w1 : World} {base bb : Nat} {vw ve vm : Value} {Ws : List Wa} {Es : List Ev} {k c : Nat} {N : Int → Option Int}
theorem fire_keep (h : BkW w base bb vw ve vm Ws Es k c N) (hg : w.grownBy w1 ve.ownBlock) (v : Value) (b : Nat) (cs : Array Value) (t : TypeId) (hb : w.heap[b]? = some (.cells cs t (0, 0))) (h1 : t ≠ 54) (h2 : t ≠ 56) : (w1.setCell ⟨bb, 1, none⟩ v).heap[b]? = some (.cells cs t (0, 0)) := by
  have q1 := (hg.block b (Array.getElem?_eq_some_iff.1 hb).1 (fun e => by
    obtain ⟨c1, q, _⟩ := row_own h.es e.symm
    exact cells_ne hb q h1 rfl)).trans hb
  exact (Below.heap_setCell w1 ⟨bb, 1, none⟩ v b (fun e => cells_ne hb h.box h2 e)).trans q1
/-- Blocks of cells that are none of the book's keep what they hold, and become none of its. -/
def FK (w w' : World) (bb : Nat) (vw ve vw' ve' : Value) : Prop := ∀ (b : Nat) (cs : Array Value) (t : TypeId), w.heap[b]? = some (.cells cs t (0, 0)) → b ≠ bb → vw.ownBlock ≠ some b → ve.ownBlock ≠ some b → w'.heap[b]? = some (.cells cs t (0, 0)) ∧ vw'.ownBlock ≠ some b ∧ ve'.ownBlock ≠ some b
theorem OwnOr.or {v v' : Value} (h : v'.ownBlock = v.ownBlock ∨ ∃ q, v'.ownBlock = some q ∧ w.heap.size ≤ q) : OwnOr w v v' := by
  rcases h with h | ⟨g, h, hg⟩
  · exact .same h
  · intro q hq
    rw [h] at hq
    exact .inr (by rw [← Option.some.inj hq]; exact hg)
theorem TrigR.keepB {w' : World} {lo : Nat} {s up : ByteArray} {what : Int} {sb wb ub : Nat} (h : TrigR w lo s up what sb wb ub) (hk : ∀ (b : Nat) (cs : Array Value) (t : TypeId), w.heap[b]? = some (.cells cs t (0, 0)) → t ≠ 54 → t ≠ 56 → w'.heap[b]? = some (.cells cs t (0, 0))) : TrigR w' lo s up what sb wb ub :=
  ⟨hk _ _ _ h.hs (by decide) (by decide), hk _ _ _ h.hw (by decide) (by decide), hk _ _ _ h.hu (by decide) (by decide), h.los, h.low, h.lou⟩
end
theorem ev_cells (y : Ev) (gb : Nat) (w6 : World) (N6 : w6.heap[gb]? = some (.cells #[.int .i64 y.ses, .int .i64 y.no, .string y.path, .int .i64 y.what, .int .i64 y.when] 54 (0, 0))) (j : Nat) (u : Value) (hu : (evOne y)[j]? = some u) : w6.cell? ((⟨gb, 0, none⟩ : Addr).add j) = some u := by
  rw [show (⟨gb, 0, none⟩ : Addr).add j = ⟨gb, j, none⟩ by rw [Addr.add_lit, Nat.zero_add]]
  match j, hu with
  | 0, hu => simp [evOne] at hu; rw [← hu]; simp [World.cell?, N6]
  | 1, hu => simp [evOne] at hu; rw [← hu]; simp [World.cell?, N6]
  | 2, hu => simp [evOne] at hu; rw [← hu]; simp [World.cell?, N6]
  | 3, hu => simp [evOne] at hu; rw [← hu]; simp [World.cell?, N6]
  | 4, hu => simp [evOne] at hu; rw [← hu]; simp [World.cell?, N6]
  | n + 5, hu => simp [evOne] at hu
set_option maxHeartbeats 16000000 in
theorem fire_frm (base bb : Nat) (vw ve vm : Value) (Ws : List Wa) (Es : List Ev) (k c : Nat) (N : Int → Option Int) (s up last : ByteArray) (what when : Int) (w : World) (h : BkW w base bb vw ve vm Ws Es k c N) (hup : ∀ W : World, Calls Tryz.prog 48 #[.string s] W fun e w' => e = .returned (.tuple #[.string up, .string last]) ∧ ∃ n, w' = W.drewN n)
    (hses : ∀ x ∈ Ws, InR x.ses) (hlw : Ws.length ≤ 1000) (hle : Es.length ≤ 50000) (hk : k < 10000000) :
    Calls Tryz.prog 17 #[.pointer (some ⟨bb, 0, none⟩), .string s, .int .i64 what, .int .i64 when] w fun e w' => e = .returned (.tuple #[]) ∧ ∃ vw' ve' vm' k' c', BkW w' base bb vw' ve' vm' (fireW s up what Ws) (fireS s up what when Ws (Es, N)).1 k' c' (fireS s up what when Ws (Es, N)).2 ∧ k' ≤ k + Ws.length ∧ Below base w w' ∧ FrM w w' bb vw ve vm vw' ve' vm' := by
  have HT := Lib.hid (trigs_any s up last what w hup)
  obtain ⟨wa, wc, rfl, hga, _⟩ := waV_form h.ws
  have HG := Lib.hid hga
  have HH := Lib.hid h
  have HS := Lib.hid hses
  have hbw := h.lt
  clear h hup hses hga
  go_enter Tryz.func17, Tryz.ntmps17
  go_wp2_with fail
  refine HT.out.mono ?_
  rintro e w1 ⟨sb, wb, ub, rfl, ht, b1⟩
  obtain ⟨tb, htb⟩ : ∃ tb, tb = w1.heap.size := ⟨_, rfl⟩
  have n2 := heap_alloc_new w1 (.cells #[trigV sb wb ub] 82)
  have b2 := (Below.refl _ w1).alloc (Nat.le_refl _) (.cells #[trigV sb wb ub] 82)
  obtain ⟨w2, hw2⟩ : ∃ w2, w2 = w1.alloc (.cells #[trigV sb wb ub] 82) := ⟨_, rfl⟩
  rw [← hw2, ← htb] at n2
  rw [← hw2] at b2
  have HK2 := Lib.hid ((HH.out.below b1).below b2)
  have HT2 := Lib.hid (ht.below b2)
  have hbb : Below w.heap.size w w2 := b1.trans (b2.mono b1.size)
  have HB2 : Hid (Below base w w2) := Lib.hid (hbb.mono HH.out.lo.2)
  have HFK2 : Hid (FrM w w2 bb (.slice wa Ws.length wc) ve vm (.slice wa Ws.length wc) ve vm) := Lib.hid (FrM.low hbb)
  have HN2 := Lib.hid n2
  have HW2 := Lib.hid hw2
  have HTB := Lib.hid htb
  have HTL : Hid (w.heap.size ≤ tb) := Lib.hid (by rw [htb]; exact b1.size)
  have x0 := HK2.out.c0
  clear ht b1 b2 hw2 n2 hbb
  unfold trigV at HW2
  go_upto_region 2 with fail
  rw [← HW2.out, ← HTB.out]
  clear htb
  go_wp2_with fail
  go_loopw [10, 11, 12, 13, 24] (fun _ _ _ _ iv wr => ∃ (j k' c' : Nat) (ve' vm' : Value), j ≤ Ws.length ∧ iv = .int .i64 j ∧ k' ≤ k + j ∧ Hid (BkW wr base bb (.slice wa Ws.length wc) ve' vm' Ws (fireS s up what when (Ws.take j) (Es, N)).1 k' c' (fireS s up what when (Ws.take j) (Es, N)).2) ∧ Hid (TrigR wr w.heap.size s up what sb wb ub) ∧ Hid (wr.heap[tb]? = some (.cells #[trigV sb wb ub] 82)) ∧ Hid (Below base w wr) ∧ Hid (FrM w wr bb (.slice wa Ws.length wc) ve vm (.slice wa Ws.length wc) ve' vm')) (fun _ _ _ _ iv _ => Ws.length - (intOf iv).toNat)
  case atStart =>
    have q : BkW w2 base bb (.slice wa Ws.length wc) ve vm Ws (fireS s up what when (Ws.take 0) (Es, N)).1 k c (fireS s up what when (Ws.take 0) (Es, N)).2 := by rw [fireS_zero]; exact HK2.out
    have q2 : TrigR w2 w.heap.size s up what sb wb ub := HT2.out
    exact ⟨0, k, c, ve, vm, by omega, rfl, by omega, Lib.hid q, Lib.hid q2, HN2, HB2, HFK2⟩
  case round =>
    obtain ⟨j, k', c', ve', vm', hj, rfl, hk', HK, HT2, HTN, HBB, HFK⟩ := hrel
    by_cases hlt : j < Ws.length
    · have hlt2 : decide ((j : Int) < (Ws.length : Int)) = true := by simp; omega
      obtain ⟨x, hx⟩ : ∃ x, Ws[j]? = some x := ⟨Ws[j], by simp [hlt]⟩
      obtain ⟨g, rfl, hgw, _⟩ := HG.out (by omega)
      have hrw := HK.out.ws
      have x0 := waC0 hrw hx rfl
      have x1 := waC1 hrw hx rfl
      have x2 := waC2 hrw hx rfl
      have x3 := waC3 hrw hx rfl
      have hj0 : (0 : Int) ≤ (j : Int) := by omega
      have hji : (j : Int) < (Ws.length : Int) := by omega
      have t2 : IntKind.i64.wrap ((j : Int) + 1) = (j : Int) + 1 := IntWalk.i64_in _ (by omega)
      have HX := Lib.hid hx
      have HSX : Hid (InR x.ses) := Lib.hid (HS.out x (List.mem_of_getElem? hx))
      have hfs := fireS_succ (s := s) (up := up) (what := what) (when := when) (st := (Es, N)) hx
      have hfl := fireS_len (s := s) (up := up) (what := what) (when := when) (Ws.take j) (Es, N)
      have hfl2 : (fireS s up what when (Ws.take j) (Es, N)).1.length ≤ 51000 := by
        have := List.length_take_le j Ws
        simp only at hfl
        omega
      obtain ⟨F, hF⟩ : ∃ F, F = fireS s up what when (Ws.take j) (Es, N) := ⟨_, rfl⟩
      rw [← hF] at HK hfs hfl2
      have HFS := Lib.hid hfs
      clear hfs hfl hrw hx hF
      go_upto_region 5 with fail
      have NA : WaB (wr.alloc (.cells #[.int .i64 x.ses, .string x.path, .bool x.kids, .bool x.once] 49)) wr.heap.size x := heap_alloc_new wr _
      have bA := (Below.refl wr.heap.size wr).alloc (Nat.le_refl _) (.cells #[.int .i64 x.ses, .string x.path, .bool x.kids, .bool x.once] 49)
      obtain ⟨w5, hw5⟩ : ∃ w5, w5 = wr.alloc (.cells #[.int .i64 x.ses, .string x.path, .bool x.kids, .bool x.once] 49) := ⟨_, rfl⟩
      obtain ⟨xb, hxb⟩ : ∃ xb, xb = wr.heap.size := ⟨_, rfl⟩
      have HXB := Lib.hid hxb
      rw [← hw5] at NA bA ⊢
      rw [← hxb] at NA ⊢
      have T5 := HT2.out.below bA
      have kt : w5.cell? ⟨tb, 0, none⟩ = some (trigV sb wb ub) := by
        have := (bA.block tb (Array.getElem?_eq_some_iff.1 HTN.out).1).trans HTN.out
        simp [World.cell?, this]
      unfold trigV at kt
      have htr := trig_any s up what sb wb ub x w5 T5.cs T5.cw T5.cu
      unfold waV at htr
      have HTR := Lib.hid htr
      obtain ⟨q0, q1, q2, q3⟩ := NA.cells
      have HNA := Lib.hid NA
      have HBA := Lib.hid bA
      clear hw5 hxb T5 htr NA bA x0 x1 x2 x3
      go_wp2_with fail
      refine HTR.out.mono ?_
      rintro e w6 ⟨rfl, b6⟩
      have b56 : Below wr.heap.size wr w6 := HBA.out.trans (b6.mono HBA.out.size)
      have HN6 := Lib.hid (HNA.out.below b6)
      have hxl : xb < w6.heap.size := HN6.out.lt
      have HK6 := Lib.hid (HK.out.below b56)
      have HT6 := Lib.hid (HT2.out.below b56)
      have HTN6 := Lib.hid ((b56.block tb (Array.getElem?_eq_some_iff.1 HTN.out).1).trans HTN.out)
      have HB6 : Hid (Below base w w6) := Lib.hid (HBB.out.trans (b56.mono (Nat.le_trans HH.out.lo.2 HBB.out.size)))
      have HFK6 := Lib.hid (HFK.out.trans (FrM.low b56))
      clear q0 q1 q2 q3 kt b6 b56
      cases hq : trigB s up what x with
      | false =>
        have HF2 : Hid (fireS s up what when (Ws.take (j + 1)) (Es, N) = F) := Lib.hid (by rw [HFS.out]; unfold fireT; rw [if_neg (by rw [hq]; decide)])
        clear hq
        go_wp2_with fail
        go_roundw
        case rel => exact ⟨j + 1, k', c', ve', vm', by omega, by go_num, by omega, Lib.hid (by rw [HF2.out]; exact HK6.out), HT6, HTN6, HB6, HFK6⟩
        case measure => simp [intOf]; omega
      | true =>
        have HF2 : Hid (fireS s up what when (Ws.take (j + 1)) (Es, N) = (F.1 ++ [⟨x.ses, nextN F.2 x.ses, x.path, trigK s up what x, when⟩], updN F.2 x.ses (some (nextN F.2 x.ses)))) := Lib.hid (by rw [HFS.out]; unfold fireT; rw [if_pos hq])
        obtain ⟨tk, htk⟩ : ∃ tk, tk = trigK s up what x := ⟨_, rfl⟩
        obtain ⟨no, hno⟩ : ∃ no, no = nextN F.2 x.ses := ⟨_, rfl⟩
        rw [← htk, ← hno] at HF2
        rw [← htk]
        have HNO := Lib.hid hno
        clear hq htk hno
        go_upto_region 7 with fail
        have HK7 : Hid (BkW w6.drew base bb (.slice (some ⟨g, 0, none⟩) Ws.length wc) ve' vm' Ws F.1 k' c' F.2) := Lib.hid (HK6.out.below (Below.refl _ w6).drew)
        have HN7 : Hid (WaB w6.drew xb x) := Lib.hid (HN6.out.below (Below.refl _ w6).drew)
        have HT7 : Hid (TrigR w6.drew w.heap.size s up what sb wb ub) := Lib.hid (HT6.out.below (Below.refl _ w6).drew)
        have HTN7 : Hid (w6.drew.heap[tb]? = some (.cells #[trigV sb wb ub] 82)) := HTN6
        have HB7 : Hid (Below base w w6.drew) := Lib.hid HB6.out.drew
        have HVM : Hid (∃ q, vm' = .map q) := Lib.hid (by
          rcases HK7.out.last with ⟨hv, _⟩ | ⟨mb, hv, _⟩
          · exact ⟨_, hv⟩
          · exact ⟨_, hv⟩)
        have HC2 : Hid (w6.drew.cell? ⟨bb, 2, none⟩ = some vm') := Lib.hid HK7.out.c2
        have HC0 : Hid (w6.drew.cell? ⟨xb, 0, none⟩ = some (.int .i64 x.ses)) := Lib.hid HN7.out.cells.1
        have HLK := Lib.hid (look_bk HK7.out x.ses HSX.out)
        unfold nextN at HNO
        have hbl : bb < w6.drew.heap.size := HK7.out.lt
        refine wp_region_inv_last 8 (IFJ (FN7 bb xb vm' x.ses ((F.2 x.ses).getD 0) no) (fun _ _ W => W = w6.drew)) (by kernel_rfl) (by kernel_rfl) (by kernel_rfl) (by kernel_rfl) (by kernel_rfl) ?_ ?_ ?_
        · intro z
          exact ⟨fun j hj => (by cases hj), rfl⟩
        · intro i o hi ho b z w1 hI hbi hW
          obtain rfl := hI.2
          match i, ho with
          | 0, ho =>
            obtain rfl := Option.some.inj ho
            exact gstep_move rfl (wanted0 rfl) _ rfl _ (eval_of 0 _ (by kernel_rfl) rfl) ⟨_, rfl, IFJ.step hI rfl rfl⟩
          | 1, ho =>
            obtain rfl := Option.some.inj ho
            exact gstep_nil rfl (wanted0 rfl) _ rfl _ (eval_at 35 0 _ (by kernel_rfl) (show 35 < 75 by decide) (hI.1 0 (hW 0 (by kernel_rfl)))) ⟨_, rfl, IFJ.step hI rfl rfl⟩
          | 2, ho =>
            obtain rfl := Option.some.inj ho
            exact gstep_field rfl (wanted0 rfl) _ _ _ rfl _ (eval_at 36 1 _ (by kernel_rfl) (show 36 < 75 by decide) (hI.1 1 (hW 1 (by kernel_rfl)))) _ (run_bkF2 _ _) ⟨_, rfl, IFJ.step hI rfl rfl⟩
          | 3, ho =>
            obtain rfl := Option.some.inj ho
            exact gstep_load rfl (wanted0 rfl) _ _ rfl _ (eval_at 37 2 _ (by kernel_rfl) (show 37 < 75 by decide) (hI.1 2 (hW 2 (by kernel_rfl)))) _ (run_lmp _ _ _ HVM.out HC2.out) ⟨_, rfl, IFJ.step hI rfl rfl⟩
          | 4, ho =>
            obtain rfl := Option.some.inj ho
            exact gstep_field rfl (wanted0 rfl) _ _ _ rfl _ (eval_of 10 _ (by kernel_rfl) rfl) _ (run_fW0 _ _) ⟨_, rfl, IFJ.step hI rfl rfl⟩
          | 5, ho =>
            obtain rfl := Option.some.inj ho
            exact gstep_load rfl (wanted0 rfl) _ _ rfl _ (eval_at 39 4 _ (by kernel_rfl) (show 39 < 75 by decide) (hI.1 4 (hW 4 (by kernel_rfl)))) _ (run_lint _ _ _ HC0.out) ⟨_, rfl, IFJ.step hI rfl rfl⟩
          | 6, ho =>
            obtain rfl := Option.some.inj ho
            exact gstep_look rfl (wanted0 rfl) _ _ _ rfl _ _ (eval_at 38 3 _ (by kernel_rfl) (show 38 < 75 by decide) (hI.1 3 (hW 3 (by kernel_rfl)))) (eval_at 40 5 _ (by kernel_rfl) (show 40 < 75 by decide) (hI.1 5 (hW 5 (by kernel_rfl)))) _ HLK.out ⟨_, rfl, IFJ.step hI rfl rfl⟩
          | 7, ho =>
            obtain rfl := Option.some.inj ho
            exact gstep_bin rfl (wanted0 rfl) _ _ _ _ _ rfl _ _ (eval_at 41 6 _ (by kernel_rfl) (show 41 < 75 by decide) (hI.1 6 (hW 6 (by kernel_rfl)))) rfl _ (run_addN _ _ _ HNO.out.symm _ _) ⟨_, rfl, IFJ.step hI rfl rfl⟩
          | n + 8, ho => omega
        · intro o ho b z w1 hI hA
          obtain rfl := hI.2
          obtain rfl := Option.some.inj ho
          have hF7 : z 7 = .int .i64 no := hI.1 7 (hA 7 (by decide))
          have hF3 : z 3 = vm' := hI.1 3 (hA 3 (by decide))
          refine gstep_assign rfl (wanted0 rfl) _ rfl _ (eval_at 42 7 _ (by kernel_rfl) (show 42 < 75 by decide) hF7) ?_
          simp only [putAll, Act.put, List.setIfInBounds_toArray, List.set_cons_succ, List.set_cons_zero]
          clear hI hA hF7 hF3
          go_upto_region 8 with fail
          have HWE : Hid (∃ wd, wd = w6.drew.drew) := Lib.hid ⟨_, rfl⟩
          have HK8 : Hid (BkW w6.drew.drew base bb (.slice (some ⟨g, 0, none⟩) Ws.length wc) ve' vm' Ws F.1 k' c' F.2) := Lib.hid (HK7.out.below (Below.refl _ w6.drew).drew)
          have HN8 : Hid (WaB w6.drew.drew xb x) := Lib.hid (HN7.out.below (Below.refl _ w6.drew).drew)
          have HT8 : Hid (TrigR w6.drew.drew w.heap.size s up what sb wb ub) := Lib.hid (HT7.out.below (Below.refl _ w6.drew).drew)
          have HTN8 : Hid (w6.drew.drew.heap[tb]? = some (.cells #[trigV sb wb ub] 82)) := HTN7
          have HB8 : Hid (Below base w w6.drew.drew) := Lib.hid HB7.out.drew
          have HSZ : Hid (w.heap.size ≤ w6.drew.drew.heap.size) := Lib.hid HB8.out.size
          have HVE : Hid (∃ a n c, ve' = .slice a n c) := Lib.hid (by obtain ⟨a, cc, h1, _⟩ := evV_form HK8.out.es; exact ⟨a, _, cc, h1⟩)
          have HCE : Hid (∀ W : World, Below w6.drew.drew.heap.size w6.drew.drew W → W.cell? ⟨bb, 1, none⟩ = some ve' ∧ W.cell? ⟨xb, 0, none⟩ = some (.int .i64 x.ses) ∧ W.cell? ⟨xb, 1, none⟩ = some (.string x.path)) := Lib.hid fun W hW => ⟨(HK8.out.below hW).c1, (HN8.out.below hW).cells.1, (HN8.out.below hW).cells.2.1⟩
          have HFL := Lib.hid hfl2
          obtain ⟨i1, hi1, hz1, hz2, hz3⟩ := info_parts info_ev
          refine wp_region_inv_last 17 (IFJ (FN8 bb xb ve' (⟨x.ses, no, x.path, tk, when⟩ : Ev)) (JN8 w6.drew.drew base ve' F.1 (⟨x.ses, no, x.path, tk, when⟩ : Ev))) (by kernel_rfl) (by kernel_rfl) (by kernel_rfl) (by kernel_rfl) (by kernel_rfl) ?_ ?_ ?_
          · intro z
            exact ⟨fun j hj => (by cases hj), ⟨fun _ => Below.refl _ _, fun hj => (by cases hj), fun hj => (by cases hj), fun hj => (by cases hj), fun hj => (by cases hj), fun hj => (by cases hj)⟩⟩
          · intro i o hi ho b z w1 hI hbi hW
            match i, ho with
            | 0, ho =>
              obtain rfl := Option.some.inj ho
              exact gstep_move rfl (wanted0 rfl) _ rfl _ (eval_of 0 _ (by kernel_rfl) rfl) ⟨_, rfl, IFJ.step hI rfl (hI.2.pure (by decide) (by intro h; cases h))⟩
            | 1, ho =>
              obtain rfl := Option.some.inj ho
              exact gstep_move rfl (wanted0 rfl) _ rfl _ (eval_of 0 _ (by kernel_rfl) rfl) ⟨_, rfl, IFJ.step hI rfl (hI.2.pure (by decide) (by intro h; cases h))⟩
            | 2, ho =>
              obtain rfl := Option.some.inj ho
              exact gstep_nil rfl (wanted0 rfl) _ rfl _ (eval_at 44 1 _ (by kernel_rfl) (show 44 < 75 by decide) (hI.1 1 (hW 1 (by kernel_rfl)))) ⟨_, rfl, IFJ.step hI rfl (hI.2.pure (by decide) (by intro h; cases h))⟩
            | 3, ho =>
              obtain rfl := Option.some.inj ho
              exact gstep_field rfl (wanted0 rfl) _ _ _ rfl _ (eval_at 45 2 _ (by kernel_rfl) (show 45 < 75 by decide) (hI.1 2 (hW 2 (by kernel_rfl)))) _ (run_bkF1 _ _) ⟨_, rfl, IFJ.step hI rfl (hI.2.pure (by decide) (by intro h; cases h))⟩
            | 4, ho =>
              obtain rfl := Option.some.inj ho
              have h14 := hI.2.n4 hbi
              exact gstep_load rfl (wanted0 rfl) _ _ rfl _ (eval_at 46 3 _ (by kernel_rfl) (show 46 < 75 by decide) (hI.1 3 (hW 3 (by kernel_rfl)))) _ (run_les _ _ _ HVE.out (HCE.out w1 (hI.2.pre h14)).1) ⟨_, rfl, IFJ.step hI rfl (hI.2.pure (by decide) (by intro h; cases h))⟩
            | 5, ho =>
              obtain rfl := Option.some.inj ho
              exact gstep_field rfl (wanted0 rfl) _ _ _ rfl _ (eval_of 10 _ (by kernel_rfl) rfl) _ (run_fW0 _ _) ⟨_, rfl, IFJ.step hI rfl (hI.2.pure (by decide) (by intro h; cases h))⟩
            | 6, ho =>
              obtain rfl := Option.some.inj ho
              have h14 := hI.2.n6 hbi
              exact gstep_load rfl (wanted0 rfl) _ _ rfl _ (eval_at 48 5 _ (by kernel_rfl) (show 48 < 75 by decide) (hI.1 5 (hW 5 (by kernel_rfl)))) _ (run_lint _ _ _ (HCE.out w1 (hI.2.pre h14)).2.1) ⟨_, rfl, IFJ.step hI rfl (hI.2.pure (by decide) (by intro h; cases h))⟩
            | 7, ho =>
              obtain rfl := Option.some.inj ho
              exact gstep_move rfl (wanted0 rfl) _ rfl _ (eval_of 13 _ (by kernel_rfl) rfl) ⟨_, rfl, IFJ.step hI rfl (hI.2.pure (by decide) (by intro h; cases h))⟩
            | 8, ho =>
              obtain rfl := Option.some.inj ho
              exact gstep_field rfl (wanted0 rfl) _ _ _ rfl _ (eval_of 10 _ (by kernel_rfl) rfl) _ (run_fW1 _ _) ⟨_, rfl, IFJ.step hI rfl (hI.2.pure (by decide) (by intro h; cases h))⟩
            | 9, ho =>
              obtain rfl := Option.some.inj ho
              have h14 := hI.2.n9 hbi
              exact gstep_load rfl (wanted0 rfl) _ _ rfl _ (eval_at 51 8 _ (by kernel_rfl) (show 51 < 75 by decide) (hI.1 8 (hW 8 (by kernel_rfl)))) _ (run_lstr _ _ _ (HCE.out w1 (hI.2.pre h14)).2.2) ⟨_, rfl, IFJ.step hI rfl (hI.2.pure (by decide) (by intro h; cases h))⟩
            | 10, ho =>
              obtain rfl := Option.some.inj ho
              exact gstep_move rfl (wanted0 rfl) _ rfl _ (eval_of 11 _ (by kernel_rfl) rfl) ⟨_, rfl, IFJ.step hI rfl (hI.2.pure (by decide) (by intro h; cases h))⟩
            | 11, ho =>
              obtain rfl := Option.some.inj ho
              exact gstep_move rfl (wanted0 rfl) _ rfl _ (eval_of 3 _ (by kernel_rfl) rfl) ⟨_, rfl, IFJ.step hI rfl (hI.2.pure (by decide) (by intro h; cases h))⟩
            | 12, ho =>
              obtain rfl := Option.some.inj ho
              exact gstep_build5 rfl (wanted0 rfl) _ _ _ _ _ _ _ _ _ _ _ rfl _ _ _ _ _ (eval_at 49 6 _ (by kernel_rfl) (show 49 < 75 by decide) (hI.1 6 (hW 6 (by kernel_rfl)))) (eval_at 50 7 _ (by kernel_rfl) (show 50 < 75 by decide) (hI.1 7 (hW 7 (by kernel_rfl)))) (eval_at 52 9 _ (by kernel_rfl) (show 52 < 75 by decide) (hI.1 9 (hW 9 (by kernel_rfl)))) (eval_at 53 10 _ (by kernel_rfl) (show 53 < 75 by decide) (hI.1 10 (hW 10 (by kernel_rfl)))) (eval_at 54 11 _ (by kernel_rfl) (show 54 < 75 by decide) (hI.1 11 (hW 11 (by kernel_rfl)))) _ (run_bEv _ (⟨x.ses, no, x.path, tk, when⟩ : Ev)) ⟨_, rfl, IFJ.step hI rfl (hI.2.pure (by decide) (fun _ => ⟨hW 6 (by kernel_rfl), hW 9 (by kernel_rfl)⟩))⟩
            | 13, ho =>
              obtain rfl := Option.some.inj ho
              exact gstep_row1 rfl (wanted0 rfl) _ _ rfl _ (eval_at 55 12 _ (by kernel_rfl) (show 55 < 75 by decide) (hI.1 12 (hW 12 (by kernel_rfl)))) _ _ (run_rowE _ (⟨x.ses, no, x.path, tk, when⟩ : Ev)) ⟨_, rfl, IFJ.step hI trivial (hI.2.s13 (hW 12 (by kernel_rfl)) hbi)⟩
            | 14, ho =>
              obtain rfl := Option.some.inj ho
              obtain ⟨gb, hx13, hblk⟩ := hI.2.r13 (hW 13 (by kernel_rfl)) hbi
              have hown := HK8.out.es.below (hI.2.pre hbi)
              refine gstep_append_at rfl (wanted0 rfl) _ _ _ rfl base 54 i1 _ 5 48 und_evs hi1 hz1 hz2 hz3 rfl (by decide) ve' F.1.length (cellsK evOne F.1) (eval_at 47 4 _ (by kernel_rfl) (show 47 < 75 by decide) (hI.1 4 (hW 4 (by kernel_rfl)))) hown ⟨gb, 0, none⟩ 1 1 (evOne (⟨x.ses, no, x.path, tk, when⟩ : Ev)) (eval_at 56 13 _ (by kernel_rfl) (show 56 < 75 by decide) hx13) rfl (fun i u hu => ev_cells (⟨x.ses, no, x.path, tk, when⟩ : Ev) gb w1 hblk i u hu) (evOne_one (⟨x.ses, no, x.path, tk, when⟩ : Ev)) (by have := HFL.out; unfold maxLen; omega) (by have := HFL.out; omega) (Nat.le_trans HK8.out.lo.2 (hI.2.pre hbi).size) ?_
              intro v8 w8 hown8 hgrow8 hat8
              refine ⟨_, rfl, IFJ.step hI trivial (hI.2.s14 (hW 4 (by kernel_rfl)) (hW 13 (by kernel_rfl)) hbi ?_ hgrow8 hat8)⟩
              unfold ERow
              rw [cellsK_append, List.length_append]
              simpa [cellsK] using hown8
            | 15, ho =>
              obtain rfl := Option.some.inj ho
              exact gstep_nil rfl (wanted0 rfl) _ rfl _ (eval_at 43 0 _ (by kernel_rfl) (show 43 < 75 by decide) (hI.1 0 (hW 0 (by kernel_rfl)))) ⟨_, rfl, IFJ.step hI rfl (hI.2.pure (by decide) (by intro h; cases h))⟩
            | 16, ho =>
              obtain rfl := Option.some.inj ho
              exact gstep_field rfl (wanted0 rfl) _ _ _ rfl _ (eval_at 58 15 _ (by kernel_rfl) (show 58 < 75 by decide) (hI.1 15 (hW 15 (by kernel_rfl)))) _ (run_bkF1 _ _) ⟨_, rfl, IFJ.step hI rfl (hI.2.pure (by decide) (by intro h; cases h))⟩
            | n + 17, ho => omega
          · intro o ho b z w1 hI hA
            obtain rfl := Option.some.inj ho
            have hF16 : z 16 = .pointer (some ⟨bb, 1, none⟩) := hI.1 16 (hA 16 (by decide))
            obtain ⟨hrow, hgr, hqr⟩ := hI.2.post (hA 14 (by decide))
            have hfk := ((HFK6.out.trans (FrM.low ((Below.refl _ w6).drew))).trans (FrM.low ((Below.refl _ w6.drew).drew))).stepE hgr (OwnOr.or hqr)
            obtain ⟨a9, c9, hx14, _, _⟩ := evV_form hrow
            have hbk := HK8.out.turnE hgr hrow
            have hkp := fire_keep HK8.out hgr (z 14)
            have htr := HT8.out.keepB hkp
            have htn := hkp _ _ _ HTN8.out (by decide) (by decide)
            have hwa := hkp _ _ _ HN8.out (by decide) (by decide)
            have hbox : w1.heap[bb]? = some (.cells #[.slice (some ⟨g, 0, none⟩) Ws.length wc, ve', vm'] 56 (0, 0)) := (hgr.block bb HK8.out.lt (fun e => HK8.out.ne_e e.symm rfl)).trans HK8.out.box
            have hcell : w1.cell? ⟨bb, 1, none⟩ = some ve' := by simp [World.cell?, hbox]
            have hfrz : w1.frozen? ⟨bb, 1, none⟩ = false := by simp [World.frozen?, hbox]
            have bb1 : Below base w (w1.setCell ⟨bb, 1, none⟩ (z 14)) := by
              have q2 := HB8.out.grown hgr (Nat.le_trans HH.out.lo.2 HB8.out.size) (fun g hg => by
                obtain ⟨c1, _, q3⟩ := row_own HK8.out.es hg
                exact q3)
              exact q2.setCell (p := ⟨bb, 1, none⟩) HH.out.lo.1 _
            obtain ⟨nl, hnl⟩ : ∃ nl, nl = (F.1 ++ [(⟨x.ses, no, x.path, tk, when⟩ : Ev)]).length := ⟨_, rfl⟩
            rw [← hnl] at hx14
            rw [hx14] at hbk bb1 htr htn hwa hfk
            refine gstep_store rfl (wanted0 rfl) _ _ _ rfl _ _ (eval_at 59 16 _ (by kernel_rfl) (show 59 < 75 by decide) hF16) (eval_at 57 14 _ (by kernel_rfl) (show 57 < 75 by decide) hx14) _ (run_storeEs w1 _ _ _ _ _ hcell hfrz) ?_
            simp only [putAll, Act.put, List.setIfInBounds_toArray, List.set_cons_succ, List.set_cons_zero]
            obtain ⟨w9, hw9⟩ : ∃ w9, w9 = w1.setCell ⟨bb, 1, none⟩ (.slice a9 nl c9) := ⟨_, rfl⟩
            rw [← hw9] at hbk bb1 htr htn hwa hfk ⊢
            have HFK9 := Lib.hid hfk
            have hset := setl_frm base bb _ _ vm' Ws _ k' c' F.2 x.ses no w9 hbk HSX.out (by omega)
            have HSET := Lib.hid hset
            have HTR9 := Lib.hid htr
            have HTN9 := Lib.hid htn
            have HBX := Lib.hid hbk.box
            have HBB9 := Lib.hid bb1
            have y0 : w9.cell? ⟨xb, 0, none⟩ = some (.int .i64 x.ses) := by simp [World.cell?, hwa]
            have hxl9 : xb < w9.heap.size := (Array.getElem?_eq_some_iff.1 hwa).1
            clear hI hA hrow hgr hx14 hbk hkp htr htn hwa hbox hcell hfrz hF16 hnl bb1 hset hw9 hfk hqr
            go_wp2_with fail
            refine HSET.out.mono ?_
            rintro e w10 ⟨rfl, vm2, c2, hk2, hb2, hkp2, hfr2⟩
            have HK10 := Lib.hid hk2
            have HT10 : Hid (TrigR w10 w.heap.size s up what sb wb ub) := Lib.hid (HTR9.out.keepB (fun b cs t hb _ h2 => hkp2 b cs t hb (cells_ne hb HBX.out h2)))
            have HTN10 := Lib.hid (hkp2 _ _ _ HTN9.out (cells_ne HTN9.out HBX.out (by decide)))
            have HB10 : Hid (Below base w w10) := Lib.hid (HBB9.out.trans hb2)
            have HFK10 := Lib.hid (HFK9.out.trans hfr2)
            clear hk2 hb2 hkp2 hfr2
            go_wp2_with fail
            go_roundw
            case rel => exact ⟨j + 1, k' + 1, c2, _, vm2, by omega, by go_num, by omega, Lib.hid (by rw [HF2.out]; exact HK10.out), HT10, HTN10, HB10, HFK10⟩
            case measure => simp [intOf]; omega
    · obtain rfl : j = Ws.length := by omega
      have hlt2 : decide ((Ws.length : Int) < (Ws.length : Int)) = false := by simp
      rw [List.take_length] at HK
      have hdel := del_wa 46 #[.pointer (some ⟨tb, 0, none⟩)] (enters_of Tryz.func46 (by kernel_rfl) rfl) (fun x => trigB s up what x && x.once) base (.slice wa Ws.length wc) Ws wr (by omega) HK.out.ws (fun W x hW => by
        have hne : ∀ (b : Nat) (cs : Array Value) (t : TypeId), wr.heap[b]? = some (.cells cs t (0, 0)) → t ≠ 49 → (Value.slice wa Ws.length wc).ownBlock ≠ some b := fun b cs t hb ht e => by
          obtain ⟨c1, q, _⟩ := row_own HK.out.ws e
          exact cells_ne hb q ht rfl
        have T := HT2.out.kept hW (hne _ _ _ HT2.out.hs (by decide)) (hne _ _ _ HT2.out.hw (by decide)) (hne _ _ _ HT2.out.hu (by decide))
        have c1 := (hW.block tb (Array.getElem?_eq_some_iff.1 HTN.out).1 (fun e => hne _ _ _ HTN.out (by decide) e.symm)).trans HTN.out
        exact firec_any s up what sb wb ub tb w.heap.size x W T (by simp [World.cell?, c1]))
      have HDEL := Lib.hid hdel
      have x0 := HK.out.c0
      have hbr := HK.out.lt
      clear hdel
      go_wp2_with fail
      refine HDEL.out.mono ?_
      rintro e w3 ⟨v', rfl, hr, hob, hg⟩
      have hbox : w3.heap[bb]? = some (.cells #[.slice wa Ws.length wc, ve', vm'] 56 (0, 0)) := (hg.block bb HK.out.lt (fun e => HK.out.ne_w e.symm rfl)).trans HK.out.box
      have y0 : w3.cell? ⟨bb, 0, none⟩ = some (.slice wa Ws.length wc) := by simp [World.cell?, hbox]
      have f0 : w3.frozen? ⟨bb, 0, none⟩ = false := by simp [World.frozen?, hbox]
      obtain ⟨na, nc, hv', _, _⟩ := waV_form hr
      have HK1 := Lib.hid (HK.out.turn hg hr)
      have HFK1 := Lib.hid (HFK.out.stepW hg (.same hob))
      have HB3 : Hid (Below base w (w3.setCell ⟨bb, 0, none⟩ v')) := Lib.hid (by
        have q1 := HBB.out.grown hg (Nat.le_trans HH.out.lo.2 HBB.out.size) (fun g hg => by
          obtain ⟨c1, _, q3⟩ := row_own HK.out.ws hg
          exact q3)
        exact q1.setCell (p := ⟨bb, 0, none⟩) HH.out.lo.1 _)
      obtain ⟨nl, hnl⟩ : ∃ nl, nl = (Ws.filter fun x => !(trigB s up what x && x.once)).length := ⟨_, rfl⟩
      rw [← hnl] at hv'
      subst hv'
      clear hr hg hbox hnl hob x0
      go_wp2_with fail
      go_end0
      exact ⟨rfl, _, _, _, _, _, HK1.out, hk', HB3.out, HFK1.out⟩
theorem fire_full (base bb : Nat) (vw ve vm : Value) (Ws : List Wa) (Es : List Ev) (k c : Nat) (N : Int → Option Int) (s up last : ByteArray) (what when : Int) (w : World) (h : BkW w base bb vw ve vm Ws Es k c N) (hup : ∀ W : World, Calls Tryz.prog 48 #[.string s] W fun e w' => e = .returned (.tuple #[.string up, .string last]) ∧ ∃ n, w' = W.drewN n)
    (hses : ∀ x ∈ Ws, InR x.ses) (hlw : Ws.length ≤ 1000) (hle : Es.length ≤ 50000) (hk : k < 10000000) :
    Calls Tryz.prog 17 #[.pointer (some ⟨bb, 0, none⟩), .string s, .int .i64 what, .int .i64 when] w fun e w' => e = .returned (.tuple #[]) ∧ ∃ vw' ve' vm' k' c', BkW w' base bb vw' ve' vm' (fireW s up what Ws) (fireS s up what when Ws (Es, N)).1 k' c' (fireS s up what when Ws (Es, N)).2 ∧ k' ≤ k + Ws.length ∧ Below base w w' ∧ FK w w' bb vw ve vw' ve' :=
  (fire_frm base bb vw ve vm Ws Es k c N s up last what when w h hup hses hlw hle hk).mono fun e w' ⟨h1, a, b, d, k', c', h2, h3, h4, h5⟩ => ⟨h1, a, b, d, k', c', h2, h3, h4, fun q cs t hq n1 n2 n3 => by
    have hlt := (Array.getElem?_eq_some_iff.1 hq).1
    have hno : ¬ OwnM bb vw ve vm q := fun ho => by
      rcases ho with ho | ho | ho | ho
      · exact n1 ho
      · exact n2 ho
      · exact n3 ho
      · rcases h.last with ⟨e1, _⟩ | ⟨mb, e1, hm, _⟩
        · rw [e1] at ho; cases ho
        · rw [e1] at ho; injection ho with ho; exact map_ne hq hm (Option.some.inj ho).symm
    have hno2 : ¬ OwnM bb a b d q := fun ho => by
      rcases h5.own q ho with e1 | e1
      · exact hno e1
      · omega
    exact ⟨(h5.keep q hlt hno).trans hq, fun e1 => hno2 (.inr (.inl e1)), fun e1 => hno2 (.inr (.inr (.inl e1)))⟩⟩
theorem fire_any (base bb : Nat) (vw ve vm : Value) (Ws : List Wa) (Es : List Ev) (k c : Nat) (N : Int → Option Int) (s up last : ByteArray) (what when : Int) (w : World) (h : BkW w base bb vw ve vm Ws Es k c N) (hup : ∀ W : World, Calls Tryz.prog 48 #[.string s] W fun e w' => e = .returned (.tuple #[.string up, .string last]) ∧ ∃ n, w' = W.drewN n)
    (hses : ∀ x ∈ Ws, InR x.ses) (hlw : Ws.length ≤ 1000) (hle : Es.length ≤ 50000) (hk : k < 10000000) :
    Calls Tryz.prog 17 #[.pointer (some ⟨bb, 0, none⟩), .string s, .int .i64 what, .int .i64 when] w fun e w' => e = .returned (.tuple #[]) ∧ ∃ vw' ve' vm' k' c', BkW w' base bb vw' ve' vm' (fireW s up what Ws) (fireS s up what when Ws (Es, N)).1 k' c' (fireS s up what when Ws (Es, N)).2 ∧ k' ≤ k + Ws.length ∧ Below base w w' :=
  (fire_full base bb vw ve vm Ws Es k c N s up last what when w h hup hses hlw hle hk).mono fun e w' ⟨h1, a, b, d, k', c', h2, h3, h4, _⟩ => ⟨h1, a, b, d, k', c', h2, h3, h4⟩
end Go.Proofs.YtbbdokfankgllaaGreatDoor
