/- listOf, for any record. No conditions beyond those in each statement. -/
import Derived.Test.YtiknfifiglooeaaDoorChunkLo
namespace Go.Proofs.YtiknfifiglooeaaDoor
open Go Go.RowKit Go.Proofs.Tryd
set_option linter.unusedVariables false
set_option maxRecDepth 100000

/-- What a round of listOf's loop starts from. -/
def LoR (m : Nat) (w : World) (lb rb : Nat) (i t n : Int) (st : RS) (k : Nat) (wr : World) : Prop :=
  ∃ sv, LsB wr lb i t n sv ∧ Rs wr rb (rdSm k st).2 ∧ wr.ownsRow m 70 1 sv k (smCells (rdSm k st).1) ∧ LsB wr (m + 1) 0 0 0 (.slice none 0 0) ∧ Below m w wr
set_option maxHeartbeats 4000000 in
theorem clistof_any (r : Rc) (hd : r.data.size ≤ 140737488355328) (w : World) :
    Calls Tryd.prog 111 #[recV r] w fun e w' => ∃ sv, e = .returned (lsV (listF r) sv) ∧ w'.ownsRow w.heap.size 70 1 sv (listF r).sums.length (smCells (listF r).sums) ∧ Below w.heap.size w w' := by
  obtain ⟨kd, ix, tm, d⟩ := r
  simp only at hd
  have R1 := (RecB.new w ⟨kd, ix, tm, d⟩).below ((Below.refl _ (w.alloc (.cells #[.int .i64 kd, .int .i64 ix, .int .i64 tm, .string d] 58))).alloc (Nat.le_refl _) (.cells #[.int .i64 0, .int .i64 0, .int .i64 0, .slice none 0 0] 67))
  have L1 := LsB.new (w.alloc (.cells #[.int .i64 kd, .int .i64 ix, .int .i64 tm, .string d] 58)) 0 0 0 (.slice none 0 0)
  have B1 := ((Below.refl w.heap.size w).alloc (Nat.le_refl _) (.cells #[.int .i64 kd, .int .i64 ix, .int .i64 tm, .string d] 58)).alloc (by simp) (.cells #[.int .i64 0, .int .i64 0, .int .i64 0, .slice none 0 0] 67)
  rw [World.size_alloc] at L1
  unfold recV
  simp only
  go_enter Tryd.func111, Tryd.ntmps111
  go_upto_region 1 with fail
  generalize (w.alloc (.cells #[.int .i64 kd, .int .i64 ix, .int .i64 tm, .string d] 58)).alloc (.cells #[.int .i64 0, .int .i64 0, .int .i64 0, .slice none 0 0] 67) = w1 at L1 R1 B1 ⊢
  obtain ⟨⟨c0, c1, c2, c3⟩, _⟩ := R1.cells
  simp only at c0 c1 c2 c3
  obtain ⟨⟨l0, l1, l2, l3⟩, q0, q1, q2, q3⟩ := L1.cells
  have HR1 := Lib.hid R1
  have HL1 := Lib.hid L1
  have HB1 := Lib.hid B1
  clear R1 L1 B1
  by_cases hk : kd = 4
  case neg =>
    have d0 : (kd == 4) = false := by simp [hk]
    have HV : Hid (listF ⟨kd, ix, tm, d⟩ = ls0) := by show _ = _; unfold listF; exact if_neg (fun h => hk h.1)
    go_wp2_with fail
    refine cretlo _ (setLs w1 (w.heap.size + 1) 0 0 0 (.slice none 0 0)) (w.heap.size + 1) ls0 (.slice none 0 0) _ rfl rfl (HL1.out.setAll 0 0 0 (.slice none 0 0)) ?_
    rw [HV.out]
    exact ⟨_, rfl, World.ownsRow_nil _ _ _ _, below_setLs HB1.out (Nat.le_succ _) _ _ _ _⟩
  subst hk
  go_upto_region 3 with fail
  go_wp2_with fail
  refine (pread_any d w1).mono ?_
  rintro e w2 ⟨rfl, hrd, hb2, hz2⟩
  clear c0 c1 c2 c3 l0 l1 l2 l3 q0 q1 q2 q3
  have HMB : Hid (w.heap.size + 1 < w1.heap.size) := HL1.out.lt
  obtain ⟨n1, hn1⟩ : ∃ n, n = (loA ⟨4, ix, tm, d⟩).1 := ⟨_, rfl⟩
  obtain ⟨s1, hs1⟩ : ∃ s, s = (loA ⟨4, ix, tm, d⟩).2 := ⟨_, rfl⟩
  obtain ⟨rb, hrb⟩ : ∃ b, b = w1.heap.size := ⟨_, rfl⟩
  have HS0 : Hid (Rs w2.drew rb (some d.data.toList)) := by show Rs w2.drew rb (some d.data.toList); rw [hrb]; exact ⟨hrd, by simpa using hd⟩
  have HNU := Lib.hid (fun (W : World) (h : Rs W rb (some d.data.toList)) => show Calls Tryd.prog 106 #[.pointer (some ⟨rb, 0, none⟩), .int .i64 281474976710655] W fun e w' => e = .returned (.int .i64 n1) ∧ Rs w' rb s1 ∧ W.grownBy w' (some rb) from by
    rw [hn1, hs1]
    exact num_rs rb 281474976710655 (some d.data.toList) W h)
  have HRB := Lib.hid (fun (W : World) (h : w2.drew.grownBy W (some rb)) => show RecB W w.heap.size ⟨4, ix, tm, d⟩ from RecB.kept (w := w2.drew) (HR1.out.below hb2.drew) h (fun e => by have := Option.some.inj e; have := HMB.out; omega))
  have HVB := Lib.hid (fun (W : World) (h : w2.drew.grownBy W (some rb)) => show LsB W (w.heap.size + 1) 0 0 0 (.slice none 0 0) from (h.block _ (Nat.lt_of_lt_of_le HMB.out hb2.size) (fun e => by have := Option.some.inj e; have := HMB.out; omega)).trans (HL1.out.below hb2.drew))
  have HBW := Lib.hid (fun (W : World) (h : w2.drew.grownBy W (some rb)) => show Below w.heap.size w W from (HB1.out.trans (hb2.mono HB1.out.size)).grown (w' := W) ⟨h.os, h.tape, h.output, h.size, h.block⟩ (Nat.le_trans HB1.out.size hb2.size) (fun j hj => by have := Option.some.inj hj; have := HMB.out; omega))
  have HZ2 := Lib.hid hz2
  rw [← hrb]
  have HRB0 := Lib.hid hrb
  clear hrd hb2 hz2 hrb
  go_upto_region 4 with fail
  refine wp_region_inv_last 8 (IFJ (F4 w.heap.size rb ⟨4, ix, tm, d⟩ n1) (J4 w2.drew rb (some d.data.toList) s1)) (by kernel_rfl) (by kernel_rfl) (by kernel_rfl) (by kernel_rfl) (by kernel_rfl) ?_ ?_ ?_
  · intro x
    exact ⟨fun j hj => (by cases hj), J4.start HS0.out x⟩
  · intro k o hk ho b x W hI hbi hW
    match k, ho with
      | 0, ho =>
        obtain rfl := Option.some.inj ho
        exact gstep_field rfl (wanted0 rfl) _ _ _ rfl _ (eval_of 1 _ (by kernel_rfl) rfl) _ (run_recf1 W _) ⟨_, rfl, IFJ.step hI rfl (hI.2.pure (by decide))⟩
      | 1, ho =>
        obtain rfl := Option.some.inj ho
        exact gstep_load rfl (wanted0 rfl) _ _ rfl _ (eval_at 12 0 _ (by kernel_rfl) (show 12 < 42 by decide) (hI.1 0 (hW 0 (by kernel_rfl)))) _ (run_loadI W _ _ (HRB.out W hI.2.one).cells.1.2.1) ⟨_, rfl, IFJ.step hI rfl (hI.2.pure (by decide))⟩
      | 2, ho =>
        obtain rfl := Option.some.inj ho
        exact gstep_field rfl (wanted0 rfl) _ _ _ rfl _ (eval_of 1 _ (by kernel_rfl) rfl) _ (run_recf2 W _) ⟨_, rfl, IFJ.step hI rfl (hI.2.pure (by decide))⟩
      | 3, ho =>
        obtain rfl := Option.some.inj ho
        exact gstep_load rfl (wanted0 rfl) _ _ rfl _ (eval_at 14 2 _ (by kernel_rfl) (show 14 < 42 by decide) (hI.1 2 (hW 2 (by kernel_rfl)))) _ (run_loadI W _ _ (HRB.out W hI.2.one).cells.1.2.2.1) ⟨_, rfl, IFJ.step hI rfl (hI.2.pure (by decide))⟩
      | 4, ho =>
        obtain rfl := Option.some.inj ho
        exact gstep_move rfl (wanted0 rfl) _ rfl _ (eval_of 3 _ (by kernel_rfl) rfl) ⟨_, rfl, IFJ.step hI rfl (hI.2.pure (by decide))⟩
      | 5, ho =>
        obtain rfl := Option.some.inj ho
        have hrd := hI.2.rd
        rw [hbi] at hrd
        refine gstep_call2 rfl (wanted0 rfl) _ _ _ _ rfl _ _ (eval_at 16 4 _ (by kernel_rfl) (show 16 < 42 by decide) (hI.1 4 (hW 4 (by kernel_rfl)))) rfl (call_rnum W _ _) ?_
        refine (HNU.out W hrd).mono ?_
        rintro e w3 ⟨rfl, h3, hg3⟩
        exact ⟨_, rfl, _, rfl, IFJ.step hI rfl (hI.2.num HS0.out.lt h3 hg3)⟩
      | 6, ho =>
        obtain rfl := Option.some.inj ho
        exact gstep_mkL rfl (wanted0 rfl) _ _ _ rfl _ _ _ (eval_at 13 1 _ (by kernel_rfl) (show 13 < 42 by decide) (hI.1 1 (hW 1 (by kernel_rfl)))) (eval_at 15 3 _ (by kernel_rfl) (show 15 < 42 by decide) (hI.1 3 (hW 3 (by kernel_rfl)))) (eval_at 17 5 _ (by kernel_rfl) (show 17 < 42 by decide) (hI.1 5 (hW 5 (by kernel_rfl)))) ⟨_, rfl, IFJ.step hI rfl (hI.2.pure (by decide))⟩
      | 7, ho =>
        obtain rfl := Option.some.inj ho
        exact gstep_newL rfl (wanted0 rfl) rfl ⟨_, rfl, IFJ.step hI trivial hI.2.made⟩
      | n + 8, ho => omega
  · intro o ho b x W hI hA
    obtain rfl := Option.some.inj ho
    obtain ⟨lb, hx7, hlo, hlb⟩ := hI.2.new (hA 7 (by decide))
    have hrd := hI.2.rd
    rw [hA 5 (by decide)] at hrd
    have h6 : x 6 = .agg #[.int .i64 ix, .int .i64 tm, .int .i64 n1, .slice none 0 0] := hI.1 6 (hA 6 (by decide))
    refine gstep_store rfl (wanted0 rfl) _ _ _ rfl _ _ (eval_at 4 7 _ (by kernel_rfl) (show 4 < 42 by decide) hx7) (eval_at 18 6 _ (by kernel_rfl) (show 18 < 42 by decide) h6) _ (run_storeLs W lb ix tm n1 0 0 0 (.slice none 0 0) _ hlb ⟨_, _, _, rfl⟩) ?_
    simp only [putAll, Act.put, List.setIfInBounds_toArray, List.set_cons_succ, List.set_cons_zero]
    have hx7' : x (0 + 1 + 1 + 1 + 1 + 1 + 1 + 1) = .pointer (some ⟨lb, 0, none⟩) := hx7
    rw [hx7']
    have hne := Rs.not_ls hrd hlb
    have L3 := hlb.setAll ix tm n1 (.slice none 0 0)
    have S3 : Rs (setLs W lb ix tm n1 (.slice none 0 0)) rb s1 := hrd.same (setLs_other (Ne.symm hne))
    have hsz2 : w2.drew.heap.size = w1.heap.size + 1 := HZ2.out
    have V3 : LsB (setLs W lb ix tm n1 (.slice none 0 0)) (w.heap.size + 1) 0 0 0 (.slice none 0 0) := (setLs_other (by have := HMB.out; omega)).trans (HVB.out W hI.2.one)
    have B3 := below_setLs (HBW.out W hI.2.one) (show w.heap.size ≤ lb by have := HMB.out; omega) ix tm n1 (.slice none 0 0)
    have HLO : Hid (w.heap.size ≤ lb) := by show w.heap.size ≤ lb; have := HMB.out; omega
    have HRL : Hid (w.heap.size ≤ rb) := by show w.heap.size ≤ rb; have := HMB.out; have := HRB0.out; omega
    have HM1 : Hid (w.heap.size + 1 ≠ lb ∧ w.heap.size + 1 ≠ rb) := by show _ ∧ _; have := HMB.out; have := HRB0.out; constructor <;> omega
    generalize setLs W lb ix tm n1 (.slice none 0 0) = w3 at L3 S3 V3 B3 ⊢
    obtain ⟨n2, hn2⟩ : ∃ n, n = (loB ⟨4, ix, tm, d⟩).1 := ⟨_, rfl⟩
    obtain ⟨s2, hs2⟩ : ∃ s, s = (loB ⟨4, ix, tm, d⟩).2 := ⟨_, rfl⟩
    have hn64 : 0 ≤ n2 ∧ n2 ≤ 64 := by rw [hn2]; exact numF_most 6 64 (by decide) _
    obtain ⟨N, rfl⟩ : ∃ N : Nat, n2 = (N : Int) := ⟨n2.toNat, by omega⟩
    have hN : N ≤ 64 := by omega
    have HNB := Lib.hid (fun (W : World) (h : Rs W rb s1) => show Calls Tryd.prog 106 #[.pointer (some ⟨rb, 0, none⟩), .int .i64 64] W fun e w' => e = .returned (.int .i64 (N : Int)) ∧ Rs w' rb s2 ∧ W.grownBy w' (some rb) from by
      rw [hn2, hs2]
      have h' := h
      rw [hs1] at h'
      exact num_rs rb 64 (loA ⟨4, ix, tm, d⟩).2 W h')
    have HN1 : Hid (listF ⟨4, ix, tm, d⟩ = if doneF (rdSm N s2).2 = 0 ∧ validB ix tm n1 (rdSm N s2).1.length = true then ⟨ix, tm, n1, (rdSm N s2).1⟩ else ls0) := by
      show _ = _
      have e1 : loC ⟨4, ix, tm, d⟩ = rdSm N s2 := by unfold loC; rw [← hn2, ← hs2]; rfl
      unfold listF
      rw [e1, ← hn1]
      simp
    have HN1B : Hid (0 ≤ n1 ∧ n1 ≤ 281474976710655) := by show _ ∧ _; rw [hn1]; exact numF_most 6 281474976710655 (by decide) _
    have HSS := Lib.hid S3
    have HLL := Lib.hid L3
    have HVV := Lib.hid V3
    have HBB := Lib.hid B3
    have HNN := Lib.hid hne
    clear hI hA h6 hx7 hx7' hlo hlb hrd hne hsz2 HRB HVB HBW HNU HS0 HZ2 HMB HR1 HL1 HB1 hn1 hs1 hn2 hs2 hn64 L3 S3 V3 B3
    go_wp2_with fail
    refine (HNB.out w3 HSS.out).mono ?_
    rintro e w4 ⟨rfl, S4, hg4⟩
    have RR : LoR w.heap.size w lb rb ix tm n1 s2 0 w4 := by
      refine ⟨.slice none 0 0, (hg4.block lb HLL.out.lt (fun e => HNN.out (Option.some.inj e))).trans HLL.out, S4, World.ownsRow_nil _ _ _ _, (hg4.block _ HVV.out.lt (fun e => HM1.out.2 (Option.some.inj e))).trans HVV.out, ?_⟩
      exact HBB.out.grown hg4 HBB.out.size (fun j hj => by have := Option.some.inj hj; have := HRL.out; omega)
    clear S4 hg4 HSS HLL HVV HBB HNB
    go_wp2_with fail
    go_loopw [21] (fun z wr => ∃ k : Nat, k ≤ N ∧ z = .int .i64 (k : Int) ∧ LoR w.heap.size w lb rb ix tm n1 s2 k wr) (fun z _ => N - (intOf z).toNat)
    case atStart => exact ⟨0, Nat.zero_le _, rfl, RR⟩
    case round =>
      obtain ⟨k, hk, rfl, sv, Lk, Sk, Ok, Vk, Bk⟩ := hrel
      clear RR
      by_cases hlt : k < N
      · have hlt' : (k : Int) < (N : Int) := by omega
        have hk0 : (0 : Int) ≤ (k : Int) := by omega
        go_upto_region 7 with fail
        obtain ⟨ss, hss⟩ : ∃ l, l = (rdSm k s2).1 := ⟨_, rfl⟩
        obtain ⟨st, hst⟩ : ∃ s, s = (rdSm k s2).2 := ⟨_, rfl⟩
        obtain ⟨z, hz⟩ : ∃ n, n = (numF 6 4294967295 st).1 := ⟨_, rfl⟩
        obtain ⟨st', hst'⟩ : ∃ s, s = (numF 6 4294967295 st).2 := ⟨_, rfl⟩
        have hkl : ss.length = k := by rw [hss]; exact rdSm_length k s2
        have HSC : Hid (rdSm (k + 1) s2 = (ss ++ [z], st')) := by show _ = _; rw [hz, hst', hss, hst]; rfl
        have HZB : Hid (0 ≤ z ∧ z ≤ 4294967295) := by show _ ∧ _; rw [hz]; exact numF_most 6 4294967295 (by decide) _
        have HNC := Lib.hid (fun (W : World) (h : Rs W rb st) => show Calls Tryd.prog 106 #[.pointer (some ⟨rb, 0, none⟩), .int .i64 4294967295] W fun e w' => e = .returned (.int .i64 z) ∧ Rs w' rb st' ∧ W.grownBy w' (some rb) from by
          rw [hz, hst']
          exact num_rs rb 4294967295 st W h)
        rw [← hss, ← hkl] at Ok
        rw [← hst] at Sk
        have HR0 : Hid (Rs wr.drew rb st) := Lib.hid (Sk.same rfl)
        have HO0 : Hid (wr.drew.ownsRow w.heap.size 70 1 sv ss.length (smCells ss)) := Ok
        have HL0 : Hid (LsB wr.drew lb ix tm n1 sv) := Lk
        have HV0 : Hid (LsB wr.drew (w.heap.size + 1) 0 0 0 (.slice none 0 0)) := Vk
        have HB0 : Hid (Below w.heap.size w wr.drew) := Lib.hid Bk.drew
        have HVR : Hid (∀ q, sv.ownBlock = some q → w.heap.size ≤ q) := Lib.hid (fun q hq => (World.ownsRow.lt Ok q hq).1)
        have hsv : ∃ a m c, sv = .slice a m c := by obtain ⟨a, c, h⟩ := slice_of Ok; exact ⟨_, _, _, h⟩
        have HSV := Lib.hid hsv
        have HKL := Lib.hid hkl
        have HNK : Hid (ss.length ≤ 64) := by show ss.length ≤ 64; omega
        obtain ⟨i0, hi0, hz0, hz1, hz2⟩ := info_parts info_sum
        clear hss hst hz hst' hkl Lk Sk Ok Vk Bk hsv
        refine wp_region_inv_last 8 (IFJ (F7 lb rb sv z) (J7 wr.drew w.heap.size rb sv ss z st st')) (by kernel_rfl) (by kernel_rfl) (by kernel_rfl) (by kernel_rfl) (by kernel_rfl) ?_ ?_ ?_
        · intro x
          exact ⟨fun j hj => (by cases hj), J7.start HR0.out x⟩
        · intro j o hj ho b x W hI hbi hW
          match j, ho with
            | 0, ho =>
              obtain rfl := Option.some.inj ho
              exact gstep_field rfl (wanted0 rfl) _ _ _ rfl _ (eval_of 4 _ (by kernel_rfl) rfl) _ (run_lsf3 W _) ⟨_, rfl, IFJ.step hI rfl (hI.2.pure (by decide))⟩
            | 1, ho =>
              obtain rfl := Option.some.inj ho
              obtain ⟨sa, sm, sc, hsv⟩ := HSV.out
              have hld := (hI.2.ls HR0.out HL0.out hbi).cells.1.2.2.2
              have hrun : (Instr.loadAt 65 (.pointer (some ⟨lb, 3, none⟩))).run Tryd.prog W = .ok sv W := by
                rw [hsv] at hld ⊢
                exact run_loadSm W _ _ _ _ hld
              exact gstep_load rfl (wanted0 rfl) _ _ rfl _ (eval_at 23 0 _ (by kernel_rfl) (show 23 < 42 by decide) (hI.1 0 (hW 0 (by kernel_rfl)))) _ hrun ⟨_, rfl, IFJ.step hI rfl (hI.2.pure (by decide))⟩
            | 2, ho =>
              obtain rfl := Option.some.inj ho
              exact gstep_move rfl (wanted0 rfl) _ rfl _ (eval_of 3 _ (by kernel_rfl) rfl) ⟨_, rfl, IFJ.step hI rfl (hI.2.pure (by decide))⟩
            | 3, ho =>
              obtain rfl := Option.some.inj ho
              have hrd := hI.2.rd
              rw [hbi] at hrd
              refine gstep_call2 rfl (wanted0 rfl) _ _ _ _ rfl _ _ (eval_at 25 2 _ (by kernel_rfl) (show 25 < 42 by decide) (hI.1 2 (hW 2 (by kernel_rfl)))) rfl (call_rnum W _ _) ?_
              refine (HNC.out W hrd).mono ?_
              rintro e w5 ⟨rfl, h5, hg5⟩
              exact ⟨_, rfl, _, rfl, IFJ.step hI rfl (hI.2.num hbi h5 hg5)⟩
            | 4, ho =>
              obtain rfl := Option.some.inj ho
              have h3 := hW 3 (by kernel_rfl)
              exact gstep_u32 rfl (wanted0 rfl) _ rfl z (eval_at 26 3 _ (by kernel_rfl) (show 26 < 42 by decide) (hI.1 3 h3)) HZB.out ⟨_, rfl, IFJ.step hI rfl (hI.2.conv h3)⟩
            | 5, ho =>
              obtain rfl := Option.some.inj ho
              have h4 := hW 4 (by kernel_rfl)
              exact gstep_rowU rfl (wanted0 rfl) _ rfl z (eval_at 27 4 _ (by kernel_rfl) (show 27 < 42 by decide) (hI.1 4 h4)) ⟨_, rfl, IFJ.step hI trivial (hI.2.made hbi h4)⟩
            | 6, ho =>
              obtain rfl := Option.some.inj ho
              have h1 := hW 1 (by kernel_rfl)
              have h5 := hW 5 (by kernel_rfl)
              obtain ⟨g, hg, hgx⟩ := hI.2.new hbi h5
              exact gstep_append rfl (wanted0 rfl) _ _ _ rfl w.heap.size 70 i0 (.int .u32 0) 1 4 und_sums hi0 hz0 hz1 hz2 rfl (by decide) sv ss.length (smCells ss) (eval_at 24 1 _ (by kernel_rfl) (show 24 < 42 by decide) (hI.1 1 h1)) (hI.2.row HR0.out HO0.out hbi)
                ⟨g, 0, none⟩ 1 1 [.int .u32 z] (eval_at 28 5 _ (by kernel_rfl) (show 28 < 42 by decide) hg) rfl (World.news_of_block (cs := #[.int .u32 z]) (t := 70) (fr := (0, 0)) hgx) (by intro u hu; rw [List.mem_singleton.1 hu]; rfl)
                (by have := HNK.out; unfold maxLen; omega) (by have := HNK.out; omega) (Nat.le_trans HB0.out.size (hI.2.one hbi).size) (fun v' w' ho' hg' => ⟨_, rfl, IFJ.step hI trivial (hI.2.app HR0.out HO0.out hbi h5 h1 ho' hg')⟩)
            | 7, ho =>
              obtain rfl := Option.some.inj ho
              exact gstep_field rfl (wanted0 rfl) _ _ _ rfl _ (eval_of 4 _ (by kernel_rfl) rfl) _ (run_lsf3 W _) ⟨_, rfl, IFJ.step hI rfl (hI.2.pure (by decide))⟩
            | n + 8, ho => omega
        · intro o ho b x W hI hA
          obtain rfl := Option.some.inj ho
          obtain ⟨hfr, hown⟩ := hI.2.done (hA 6 (by decide))
          have hrd := hI.2.rd
          rw [hA 3 (by decide)] at hrd
          have h7 : x 7 = .pointer (some ⟨lb, 3, none⟩) := hI.1 7 (hA 7 (by decide))
          obtain ⟨na, nc, hn6⟩ := slice_of hown
          have L5 : LsB W lb ix tm n1 sv := (hfr.block lb HL0.out.lt HNN.out (HL0.out.not_row HO0.out)).trans HL0.out
          have V5 : LsB W (w.heap.size + 1) 0 0 0 (.slice none 0 0) := (hfr.block _ HV0.out.lt HM1.out.2 (HV0.out.not_row HO0.out)).trans HV0.out
          have B5 : Below w.heap.size w W := HB0.out.trans (hfr.below HRL.out HVR.out HB0.out.size)
          rw [hn6] at hown
          have L6 := L5.set (.slice na (ss.length + 1) nc)
          have V6 : LsB (W.setCell ⟨lb, 3, none⟩ (.slice na (ss.length + 1) nc)) (w.heap.size + 1) 0 0 0 (.slice none 0 0) := (block_setCell_other HM1.out.1).trans V5
          have S6 : Rs (W.setCell ⟨lb, 3, none⟩ (.slice na (ss.length + 1) nc)) rb st' := hrd.same (block_setCell_other (Ne.symm HNN.out))
          have hne8 := L5.not_row hown
          have O6 : (W.setCell ⟨lb, 3, none⟩ (.slice na (ss.length + 1) nc)).ownsRow w.heap.size 70 1 (.slice na (ss.length + 1) nc) (ss.length + 1) (smCells (ss ++ [z])) := ownsRow_same hown (fun j hj => block_setCell_other (fun e => hne8 (by rw [hj, e])))
          have B6 := B5.setCell (p := ⟨lb, 3, none⟩) HLO.out (.slice na (ss.length + 1) nc)
          refine gstep_store rfl (wanted0 rfl) _ _ _ rfl _ _ (eval_at 30 7 _ (by kernel_rfl) (show 30 < 42 by decide) h7) (eval_at 29 6 _ (by kernel_rfl) (show 29 < 42 by decide) hn6) _ (run_storeSm W _ _ _ _ _ L5.cells.1.2.2.2 L5.cells.2.2.2.2) ?_
          simp only [putAll, Act.put, List.setIfInBounds_toArray, List.set_cons_succ, List.set_cons_zero]
          have RR : LoR w.heap.size w lb rb ix tm n1 s2 (k + 1) (W.setCell ⟨lb, 3, none⟩ (.slice na (ss.length + 1) nc)) := by
            have hkl := HKL.out
            subst hkl
            refine ⟨_, L6, ?_, ?_, V6, B6⟩
            · rw [HSC.out]; exact S6
            · rw [HSC.out]; exact O6
          generalize W.setCell ⟨lb, 3, none⟩ (.slice na (ss.length + 1) nc) = w6 at RR ⊢
          have e7 : wrap64 ((k : Int) + 1) = (k : Int) + 1 := IntWalk.wrap64_in _ (by omega)
          clear hI hA hfr hown hrd h7 hn6 L5 V5 B5 L6 V6 S6 hne8 O6 B6 HSC HZB HNC HR0 HO0 HL0 HV0 HB0 HVR HSV HKL HNK
          go_wp2_with fail
          go_roundw
          case rel => exact ⟨k + 1, by omega, by go_num, RR⟩
          case measure => simp [intOf]; omega
      · obtain rfl : k = N := by omega
        have hlen := rdSm_length k s2
        obtain ⟨sa, sc, rfl⟩ := slice_of Ok
        obtain ⟨⟨l0, l1, l2, l3⟩, _⟩ := Lk.cells
        obtain ⟨⟨v0, v1, v2, v3⟩, p0, p1, p2, p3⟩ := Vk.cells
        have HOK := Lib.hid Ok
        have HVK := Lib.hid Vk
        have HBK := Lib.hid Bk
        have HSK := Lib.hid Sk
        have HLK := Lib.hid Lk
        have HLN := Lib.hid hlen
        clear hlt Lk Sk Ok Vk Bk hlen
        have fin0 : listF ⟨4, ix, tm, d⟩ = ls0 → ∃ sv, lsV ls0 (.slice none 0 0) = lsV (listF ⟨4, ix, tm, d⟩) sv ∧ (setLs wr (w.heap.size + 1) 0 0 0 (.slice none 0 0)).ownsRow w.heap.size 70 1 sv (listF ⟨4, ix, tm, d⟩).sums.length (smCells (listF ⟨4, ix, tm, d⟩).sums) := fun e => by
          rw [e]; exact ⟨_, rfl, World.ownsRow_nil _ _ _ _⟩
        have HF0 := Lib.hid fin0
        clear fin0
        by_cases hdn : doneF (rdSm k s2).2 = 0
        case neg =>
          have HV : Hid (listF ⟨4, ix, tm, d⟩ = ls0) := by show _ = _; rw [HN1.out]; exact if_neg (fun h => hdn h.1)
          have hdn' : (doneF (rdSm k s2).2 == 0) = false := by simp [hdn]
          go_wp2_with (go_at_call 108; refine (done_rs rb _ wr HSK.out).mono ?_; rintro e w5 ⟨rfl, rfl⟩)
          refine cretlo _ (setLs wr (w.heap.size + 1) 0 0 0 (.slice none 0 0)) (w.heap.size + 1) ls0 (.slice none 0 0) _ rfl rfl (HVK.out.setAll 0 0 0 (.slice none 0 0)) ?_
          obtain ⟨sv, e1, e2⟩ := HF0.out HV.out
          exact ⟨sv, by rw [e1], e2, below_setLs HBK.out (Nat.le_succ _) _ _ _ _⟩
        have hdn' : (doneF (rdSm k s2).2 != 0) = false := by simp [hdn]
        have HVA := Lib.hid (fun (W : World) => cvalid_any ix tm n1 k sa sc (by have := HN1B.out; omega) (by omega) W)
        by_cases hva : validB ix tm n1 k = true
        · have HV : Hid (listF ⟨4, ix, tm, d⟩ = ⟨ix, tm, n1, (rdSm k s2).1⟩) := by show _ = _; rw [HN1.out, HLN.out]; exact if_pos ⟨hdn, hva⟩
          go_wp2_with (first
            | (go_at_call 108; refine (done_rs rb _ wr HSK.out).mono ?_; rintro e w5 ⟨rfl, rfl⟩)
            | (go_at_call 75; refine (HVA.out wr).mono ?_; rintro e w5 ⟨rfl, hb5⟩; rw [hva]; obtain ⟨⟨m0, m1, m2, m3⟩, _⟩ := (HLK.out.below hb5).cells; obtain ⟨⟨y0, y1, y2, y3⟩, z0, z1, z2, z3⟩ := (HVK.out.below hb5).cells; have V5 := Lib.hid (HVK.out.below hb5); have B5 := Lib.hid (HBK.out.trans (hb5.mono HBK.out.size)); have O5 := Lib.hid (World.ownsRow_below HOK.out hb5); clear hb5))
          have F5 := V5.out.setAll ix tm n1 (.slice sa k sc)
          refine cretlo _ (setLs w5 (w.heap.size + 1) ix tm n1 (.slice sa k sc)) (w.heap.size + 1) ⟨ix, tm, n1, (rdSm k s2).1⟩ (.slice sa k sc) _ rfl rfl F5 ?_
          refine ⟨.slice sa k sc, by rw [HV.out], ?_, below_setLs B5.out (Nat.le_succ _) _ _ _ _⟩
          rw [HV.out]
          simp only
          rw [HLN.out]
          have hne := V5.out.not_row O5.out
          exact ownsRow_same O5.out (fun j hj => setLs_other (fun e => hne (by rw [hj, e])))
        · have hva' : validB ix tm n1 k = false := by simpa using hva
          have HV : Hid (listF ⟨4, ix, tm, d⟩ = ls0) := by show _ = _; rw [HN1.out, HLN.out]; exact if_neg (fun h => hva h.2)
          go_wp2_with (first
            | (go_at_call 108; refine (done_rs rb _ wr HSK.out).mono ?_; rintro e w5 ⟨rfl, rfl⟩)
            | (go_at_call 75; refine (HVA.out wr).mono ?_; rintro e w5 ⟨rfl, hb5⟩; rw [hva']; obtain ⟨⟨m0, m1, m2, m3⟩, _⟩ := (HLK.out.below hb5).cells; obtain ⟨⟨y0, y1, y2, y3⟩, z0, z1, z2, z3⟩ := (HVK.out.below hb5).cells; have V5 := Lib.hid (HVK.out.below hb5); have B5 := Lib.hid (HBK.out.trans (hb5.mono HBK.out.size)); have O5 := Lib.hid (World.ownsRow_below HOK.out hb5); clear hb5))
          refine cretlo _ (setLs w5 (w.heap.size + 1) 0 0 0 (.slice none 0 0)) (w.heap.size + 1) ls0 (.slice none 0 0) _ rfl rfl (V5.out.setAll 0 0 0 (.slice none 0 0)) ?_
          refine ⟨.slice none 0 0, by rw [HV.out], ?_, below_setLs B5.out (Nat.le_succ _) _ _ _ _⟩
          rw [HV.out]
          exact World.ownsRow_nil _ _ _ _
end Go.Proofs.YtiknfifiglooeaaDoor
