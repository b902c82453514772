/- The law's do: Close of both. No conditions beyond those in each statement. -/
import Derived.Test.YtckengglamkaaaaSessDo
import Derived.Deep.DeepCutAuto
namespace Go.Proofs.Ytckengglamkaaaa
open Go.RowKit Go.Maps Go.Sort
set_option linter.unusedVariables false
set_option maxRecDepth 100000

set_option maxHeartbeats 4000000 in
theorem sdo_close (m tb mb k mp cap : Nat) (a : Option Addr) (T : Int → Option Ss) (L : List Me) (q : Sa) (w : World) (h2 : TwoS m w tb mb k mp cap a T L) (hid : InR q.id) (hk : k < 100000) (hq : wrap64 ((IntKind.u64.wrap q.k).tmod 5) = 1) :
    Calls Try.prog 12 #[.pointer (some ⟨mp, 0, none⟩), .pointer (some ⟨tb, 0, none⟩), actV q] w fun e w' => e = .returned (.bool true) ∧ DoR m w w' tb mb k mp a := by
  have H2 := Lib.hid h2
  obtain ⟨qk, qi, qr, qa⟩ := q
  simp only at hid hq
  have b1 := (Below.refl w.heap.size w).alloc (Nat.le_refl _) (.cells #[.int .i64 qk, .int .i64 qi, .int .i64 qr, .string qa] 32)
  have N1 := heap_alloc_new w (.cells #[.int .i64 qk, .int .i64 qi, .int .i64 qr, .string qa] 32)
  have hl1000 : L.length ≤ 1000 := by have := h2.few; omega
  have HA := Lib.hid (fun (W : World) (hW : Below w.heap.size w W) => at_any mp cap a L qi W (h2.mod.below hW) hl1000)
  have hm0 := h2.above.2.2.2.1
  cases hT : T qi with
  | none =>
    rw [h2.rep.at_none hT] at HA
    have hs : (T qi).isSome = false := by rw [hT]; rfl
    have HCL := Lib.hid (fun (W : World) (hW : Below w.heap.size w W) => (by
      have := close_any tb mb k L.length T qi W (h2.table.below hW) hid
      unfold closeE closeC at this
      rw [hs, updS_none hs] at this; exact this : Calls Try.prog 18 #[.pointer (some ⟨tb, 0, none⟩), .int .i64 qi] W fun e w' => e = .returned (.int .i64 17) ∧ Left10 W tb mb k L.length T w'))
    clear hT hs h2
    unfold actV
    go_enter Try.func12, Try.ntmps12
    go_upto_region 1 with fail
    obtain ⟨w1, hw1⟩ : ∃ w1, w1 = w.alloc (.cells #[.int .i64 qk, .int .i64 qi, .int .i64 qr, .string qa] 32) := ⟨_, rfl⟩
    rw [← hw1] at b1 N1 ⊢
    have hlt : w.heap.size < w1.heap.size := (Array.getElem?_eq_some_iff.1 N1).1
    have c1 : w1.cell? ⟨w.heap.size, 1, none⟩ = some (.int .i64 qi) := by simp [World.cell?, N1]
    clear hw1
    go_wp2_with fail
    refine (HA.out _ b1).mono ?_
    rintro e w2 ⟨rfl, b2⟩
    have N2 := (b2.block w.heap.size hlt).trans N1
    replace b2 := b1.trans (b2.mono b1.size)
    clear N1 b1 c1 hlt
    have c0 : w2.cell? ⟨w.heap.size, 0, none⟩ = some (.int .i64 qk) := by simp [World.cell?, N2]
    have c1 : w2.cell? ⟨w.heap.size, 1, none⟩ = some (.int .i64 qi) := by simp [World.cell?, N2]
    have c2 : w2.cell? ⟨w.heap.size, 2, none⟩ = some (.int .i64 qr) := by simp [World.cell?, N2]
    have c3 : w2.cell? ⟨w.heap.size, 3, none⟩ = some (.string qa) := by simp [World.cell?, N2]
    have hlt2 : w.heap.size < w2.heap.size := (Array.getElem?_eq_some_iff.1 N2).1
    have HN2 := Lib.hid N2
    clear N2
    go_wp2_with fail
    refine (HCL.out _ b2).mono ?_
    rintro e w3 ⟨rfl, L3⟩
    have M3 := (H2.out.mod.below b2).left L3.2 H2.out.ne.2.1 (fun g hg => (H2.out.ne.2.2 g hg).2)
    have b3 := (b2.mono hm0).trans (left10_below L3 H2.out.above.2.1 (Nat.le_trans hm0 b2.size))
    go_wp2_with fail
    go_ret
    exact ⟨rfl, b3, (Onl.below b2).left b2.size L3.2, cap, a, T, L, ⟨L3.1.mono (Nat.le_succ _), M3, H2.out.rep, H2.out.few, H2.out.small, H2.out.ne, H2.out.above.1, H2.out.above.2.1, H2.out.above.2.2.1, Nat.le_trans hm0 (by have := b2.size; have := L3.2.size; omega), H2.out.above.2.2.2.2⟩⟩
  | some s =>
    obtain ⟨q, hqa, hLq⟩ := h2.rep.at_some hT
    rw [hqa] at HA
    have hql : q < L.length := (List.getElem?_eq_some_iff.1 hLq).1
    have hs : (T qi).isSome = true := by rw [hT]; rfl
    have HCL := Lib.hid (fun (W : World) (hW : TbW W tb mb k L.length T) => (by
      have := close_any tb mb k L.length T qi W hW hid
      unfold closeE closeC at this
      rw [hs] at this; exact this : Calls Try.prog 18 #[.pointer (some ⟨tb, 0, none⟩), .int .i64 qi] W fun e w' => e = .returned (.int .i64 0) ∧ Left10 W tb mb k (L.length - 1) (updS T qi none) w'))
    obtain ⟨g, hg⟩ : ∃ g, a = some ⟨g, 0, none⟩ := by
      rcases h2.mod.form with ⟨_, h0, _⟩ | h0
      · rw [h0] at hql; simp at hql
      · exact h0
    subst hg
    have HR8 := Lib.hid (h2.rep.del hLq)
    have HM := Lib.hid h2.mod
    have q0 : (0 : Int) ≤ (q : Int) := by omega
    have qn : decide ((q : Int) < 0) = false := by simp
    clear hT hs h2 hqa hLq
    unfold actV
    go_enter Try.func12, Try.ntmps12
    go_upto_region 1 with fail
    obtain ⟨w1, hw1⟩ : ∃ w1, w1 = w.alloc (.cells #[.int .i64 qk, .int .i64 qi, .int .i64 qr, .string qa] 32) := ⟨_, rfl⟩
    rw [← hw1] at b1 N1 ⊢
    have hlt : w.heap.size < w1.heap.size := (Array.getElem?_eq_some_iff.1 N1).1
    have c1 : w1.cell? ⟨w.heap.size, 1, none⟩ = some (.int .i64 qi) := by simp [World.cell?, N1]
    clear hw1
    go_wp2_with fail
    refine (HA.out _ b1).mono ?_
    rintro e w2 ⟨rfl, b2⟩
    have N2 := (b2.block w.heap.size hlt).trans N1
    replace b2 := b1.trans (b2.mono b1.size)
    clear N1 b1 c1 hlt
    have c0 : w2.cell? ⟨w.heap.size, 0, none⟩ = some (.int .i64 qk) := by simp [World.cell?, N2]
    have c1 : w2.cell? ⟨w.heap.size, 1, none⟩ = some (.int .i64 qi) := by simp [World.cell?, N2]
    have c2 : w2.cell? ⟨w.heap.size, 2, none⟩ = some (.int .i64 qr) := by simp [World.cell?, N2]
    have c3 : w2.cell? ⟨w.heap.size, 3, none⟩ = some (.string qa) := by simp [World.cell?, N2]
    have hlt2 : w.heap.size < w2.heap.size := (Array.getElem?_eq_some_iff.1 N2).1
    have HN2 := Lib.hid N2
    clear N2
    go_upto_region 20 with fail
    obtain ⟨wd, hwd⟩ : ∃ wd, wd = w2 := ⟨_, rfl⟩
    subst hwd
    obtain ⟨L1, hL1⟩ : ∃ L1, L1 = L := ⟨_, rfl⟩
    subst hL1
    have HDR : Hid (∀ W : World, Below wd.drew.heap.size wd.drew W → Below w.heap.size w W) := Lib.hid fun W hW => b2.trans (((Below.refl _ wd).drew.trans (hW.mono (Nat.le_refl _))).mono b2.size)
    have HCE : Hid (∀ W : World, Below wd.drew.heap.size wd.drew W → W.cell? ⟨mp, 0, none⟩ = some (.slice (some ⟨g, 0, none⟩) L1.length cap) ∧ W.frozen? ⟨mp, 0, none⟩ = false) := Lib.hid fun W hW => ⟨(HM.out.below (HDR.out W hW)).cell, (HM.out.below (HDR.out W hW)).frz⟩
    obtain ⟨hc1, hc2⟩ := HM.out.cap_le
    have HQ : Hid (q ≤ L1.length) := Lib.hid (by omega)
    have HQL : Hid (q < L1.length) := Lib.hid hql
    have HNL : Hid (L1.length ≤ cap ∧ L1.length ≤ 1000) := Lib.hid ⟨hc1, hl1000⟩
    have HLT : Hid ((meCells (L1.take q)).length = q * 3) := Lib.hid (by rw [meCells_len, List.length_take, Nat.min_eq_left (by omega)])
    have HLD : Hid ((meCells (L1.drop (q + 1))).length = (L1.length - (q + 1)) * 3) := Lib.hid (by rw [meCells_len, List.length_drop])
    have HLE : Hid (q + (L1.length - (q + 1)) = L1.length - 1) := Lib.hid (by omega)
    have HQW : Hid (IntKind.i64.wrap ((q : Int) + 1) = (q : Int) + 1) := Lib.hid (IntWalk.i64_in _ (by have := HNL.out; omega))
    obtain ⟨ad, cc, hsl, hadd⟩ := run_tailE w g L1.length cap (q + 1) (by omega) ⟨hc1, by have := HNL.out; omega⟩
    have HSL : Hid (∀ W : World, (Instr.sliceAt 28 (.slice (some ⟨g, 0, none⟩) L1.length cap) (some (.int .i64 ((q : Int) + 1))) none none).run Try.prog W = .ok (.slice (some ad) (L1.length - (q + 1)) cc) W) := Lib.hid (fun W => by have := hsl W; rw [show (((q + 1 : Nat) : Int)) = (q : Int) + 1 by omega] at this; exact this)
    have HOL : Hid (∀ W : World, Below wd.drew.heap.size wd.drew W → ∀ j u, (meCells (L1.take q))[j]? = some u → W.cell? ((⟨g, 0, none⟩ : Addr).add j) = some u) := Lib.hid fun W hW j u hu => by
      have h1 := meCells_take L1 q j u hu
      have hlt := (List.getElem?_eq_some_iff.1 h1).1
      rw [meCells_len] at hlt
      rw [show (⟨g, 0, none⟩ : Addr).add j = ⟨g, j, none⟩ by rw [Addr.add_lit, Nat.zero_add], (HM.out.below (HDR.out W hW)).row.cellAt j hlt, h1]
    have HOD : Hid (∀ W : World, Below wd.drew.heap.size wd.drew W → ∀ j u, (meCells (L1.drop (q + 1)))[j]? = some u → W.cell? (ad.add j) = some u) := Lib.hid fun W hW j u hu => by
      rcases hadd with rfl | h0
      · rw [meCells_drop] at hu
        have hlt := (List.getElem?_eq_some_iff.1 hu).1
        rw [meCells_len] at hlt
        rw [show (⟨g, (q + 1) * 3, none⟩ : Addr).add j = ⟨g, (q + 1) * 3 + j, none⟩ by simp [Addr.add], (HM.out.below (HDR.out W hW)).row.cellAt ((q + 1) * 3 + j) hlt, hu]
      · have hlt := (List.getElem?_eq_some_iff.1 hu).1
        rw [HLD.out, h0] at hlt; omega
    clear hsl hadd hc1 hc2 c0 c2 c3
    go_cut [7] (fun p wx => p = .int .i64 (q : Int) ∧ ∃ w9 v9, Below wd.drew.heap.size wd.drew w9 ∧ w9.ownsRow wd.drew.heap.size 48 3 v9 (L1.length - 1) (meCells (L1.take q ++ L1.drop (q + 1))) ∧ wx = w9.setCell ⟨mp, 0, none⟩ v9)
    case first =>
      refine wp_region_inv_last 19 (IFJ (FDl mp g L1.length cap q ad cc) (JDl wd.drew L1 q)) (by kernel_rfl) (by kernel_rfl) (by kernel_rfl) (by kernel_rfl) (by kernel_rfl) ?_ ?_ ?_
      · intro x
        exact ⟨fun j hj => (by cases hj), Below.refl _ _, (by simp), (by simp), (by simp)⟩
      · intro j o hi ho b x w1 hI hbi hW
        have hF : ∀ k, Region.waitsFor .any _ j k = true → FDl mp g L1.length cap q ad cc k (x k) := fun k hk => hI.1 k (hW k hk)
        match j, ho with
        | 0, ho =>
          obtain rfl := Option.some.inj ho
          exact gstep_move rfl (wanted0 rfl) _ rfl _ (eval_of 0 _ (by kernel_rfl) rfl) ⟨_, rfl, IFJ.step hI rfl (JDl.pure hI.2 (by decide))⟩
        | 1, ho =>
          obtain rfl := Option.some.inj ho
          exact gstep_rowN rfl (wanted0 rfl) _ rfl _ _ (run_rowE w1) ⟨_, rfl, IFJ.step hI trivial (JDl.one hI.2 hbi)⟩
        | 2, ho =>
          obtain rfl := Option.some.inj ho
          exact gstep_move rfl (wanted0 rfl) _ rfl _ (eval_of 0 _ (by kernel_rfl) rfl) ⟨_, rfl, IFJ.step hI rfl (JDl.pure hI.2 (by decide))⟩
        | 3, ho =>
          obtain rfl := Option.some.inj ho
          exact gstep_nil rfl (wanted0 rfl) _ rfl _ (eval_at 114 2 _ (by kernel_rfl) (show 114 < 220 by decide) (hF 2 (by kernel_rfl))) ⟨_, rfl, IFJ.step hI rfl (JDl.pure hI.2 (by decide))⟩
        | 4, ho =>
          obtain rfl := Option.some.inj ho
          exact gstep_field rfl (wanted0 rfl) _ _ _ rfl _ (eval_at 115 3 _ (by kernel_rfl) (show 115 < 220 by decide) (hF 3 (by kernel_rfl))) _ (run_mdf w1 _) ⟨_, rfl, IFJ.step hI rfl (JDl.pure hI.2 (by decide))⟩
        | 5, ho =>
          obtain rfl := Option.some.inj ho
          exact gstep_load rfl (wanted0 rfl) _ _ rfl _ (eval_at 116 4 _ (by kernel_rfl) (show 116 < 220 by decide) (hF 4 (by kernel_rfl))) _ (run_loadMs w1 _ _ _ _ (HCE.out w1 hI.2.1).1) ⟨_, rfl, IFJ.step hI rfl (JDl.pure hI.2 (by decide))⟩
        | 6, ho =>
          obtain rfl := Option.some.inj ho
          exact gstep_move rfl (wanted0 rfl) _ rfl _ (eval_of 7 _ (by kernel_rfl) rfl) ⟨_, rfl, IFJ.step hI rfl (JDl.pure hI.2 (by decide))⟩
        | 7, ho =>
          obtain rfl := Option.some.inj ho
          exact gstep_slice1 rfl (wanted0 rfl) _ _ _ rfl _ _ (eval_at 117 5 _ (by kernel_rfl) (show 117 < 220 by decide) (hF 5 (by kernel_rfl))) (eval_at 118 6 _ (by kernel_rfl) (show 118 < 220 by decide) (hF 6 (by kernel_rfl))) _ (run_cutE w1 _ _ _ _ HQ.out HNL.out) ⟨_, rfl, IFJ.step hI rfl (JDl.pure hI.2 (by decide))⟩
        | 8, ho =>
          obtain rfl := Option.some.inj ho
          obtain ⟨i1, hi1, hz1, hz2, hz3⟩ := info_parts info_me
          have hb1 : b 1 = true := hW 1 (by kernel_rfl)
          have hown := JDl.at1 hI.2 hb1 hbi
          refine gstep_append rfl (wanted0 rfl) _ _ _ rfl wd.drew.heap.size 48 i1 _ 3 32 und_mes hi1 hz1 hz2 hz3 rfl (by decide) _ 0 [] (eval_at 113 1 _ (by kernel_rfl) (show 113 < 220 by decide) rfl) hown ⟨g, 0, none⟩ q cap (meCells (L1.take q)) (eval_at 119 7 _ (by kernel_rfl) (show 119 < 220 by decide) (hF 7 (by kernel_rfl))) HLT.out (fun j u hu => HOL.out w1 hI.2.1 j u hu) (meCells_one _) (by have := HQ.out; have := HNL.out; unfold maxLen; omega) (by have := HQ.out; have := HNL.out; omega) hI.2.1.size ?_
          intro v' w' ho hg
          exact ⟨_, rfl, IFJ.step hI trivial (JDl.two hI.2 hb1 hbi hown ho hg)⟩
        | 9, ho =>
          obtain rfl := Option.some.inj ho
          exact gstep_move rfl (wanted0 rfl) _ rfl _ (eval_of 0 _ (by kernel_rfl) rfl) ⟨_, rfl, IFJ.step hI rfl (JDl.pure hI.2 (by decide))⟩
        | 10, ho =>
          obtain rfl := Option.some.inj ho
          exact gstep_nil rfl (wanted0 rfl) _ rfl _ (eval_at 121 9 _ (by kernel_rfl) (show 121 < 220 by decide) (hF 9 (by kernel_rfl))) ⟨_, rfl, IFJ.step hI rfl (JDl.pure hI.2 (by decide))⟩
        | 11, ho =>
          obtain rfl := Option.some.inj ho
          exact gstep_field rfl (wanted0 rfl) _ _ _ rfl _ (eval_at 122 10 _ (by kernel_rfl) (show 122 < 220 by decide) (hF 10 (by kernel_rfl))) _ (run_mdf w1 _) ⟨_, rfl, IFJ.step hI rfl (JDl.pure hI.2 (by decide))⟩
        | 12, ho =>
          obtain rfl := Option.some.inj ho
          exact gstep_load rfl (wanted0 rfl) _ _ rfl _ (eval_at 123 11 _ (by kernel_rfl) (show 123 < 220 by decide) (hF 11 (by kernel_rfl))) _ (run_loadMs w1 _ _ _ _ (HCE.out w1 hI.2.1).1) ⟨_, rfl, IFJ.step hI rfl (JDl.pure hI.2 (by decide))⟩
        | 13, ho =>
          obtain rfl := Option.some.inj ho
          exact gstep_move rfl (wanted0 rfl) _ rfl _ (eval_of 7 _ (by kernel_rfl) rfl) ⟨_, rfl, IFJ.step hI rfl (JDl.pure hI.2 (by decide))⟩
        | 14, ho =>
          obtain rfl := Option.some.inj ho
          exact gstep_bin rfl (wanted0 rfl) _ _ _ _ _ rfl _ _ (eval_at 125 13 _ (by kernel_rfl) (show 125 < 220 by decide) (hF 13 (by kernel_rfl))) rfl _ (run_addI w1 _ _ _ HQW.out _ _) ⟨_, rfl, IFJ.step hI rfl (JDl.pure hI.2 (by decide))⟩
        | 15, ho =>
          obtain rfl := Option.some.inj ho
          exact gstep_slice2 rfl (wanted0 rfl) _ _ _ rfl _ _ (eval_at 124 12 _ (by kernel_rfl) (show 124 < 220 by decide) (hF 12 (by kernel_rfl))) (eval_at 126 14 _ (by kernel_rfl) (show 126 < 220 by decide) (hF 14 (by kernel_rfl))) _ (HSL.out w1) ⟨_, rfl, IFJ.step hI rfl (JDl.pure hI.2 (by decide))⟩
        | 16, ho =>
          obtain rfl := Option.some.inj ho
          obtain ⟨i1, hi1, hz1, hz2, hz3⟩ := info_parts info_me
          have hb8 : b 8 = true := hW 8 (by kernel_rfl)
          have hown := JDl.at8 hI.2 hb8 hbi
          refine gstep_append rfl (wanted0 rfl) _ _ _ rfl wd.drew.heap.size 48 i1 _ 3 32 und_mes hi1 hz1 hz2 hz3 rfl (by decide) _ q (meCells (L1.take q)) (eval_at 120 8 _ (by kernel_rfl) (show 120 < 220 by decide) rfl) hown ad (L1.length - (q + 1)) cc (meCells (L1.drop (q + 1))) (eval_at 127 15 _ (by kernel_rfl) (show 127 < 220 by decide) (hF 15 (by kernel_rfl))) HLD.out (fun j u hu => HOD.out w1 hI.2.1 j u hu) (meCells_one _) (by have := HQ.out; have := HNL.out; unfold maxLen; omega) (by have := HQ.out; have := HNL.out; omega) hI.2.1.size ?_
          intro v' w' ho hg
          exact ⟨_, rfl, IFJ.step hI trivial (JDl.three hI.2 hb8 hbi hown (HLE.out ▸ ho) hg)⟩
        | 17, ho =>
          obtain rfl := Option.some.inj ho
          exact gstep_nil rfl (wanted0 rfl) _ rfl _ (eval_at 112 0 _ (by kernel_rfl) (show 112 < 220 by decide) (hF 0 (by kernel_rfl))) ⟨_, rfl, IFJ.step hI rfl (JDl.pure hI.2 (by decide))⟩
        | 18, ho =>
          obtain rfl := Option.some.inj ho
          exact gstep_field rfl (wanted0 rfl) _ _ _ rfl _ (eval_at 129 17 _ (by kernel_rfl) (show 129 < 220 by decide) (hF 17 (by kernel_rfl))) _ (run_mdf w1 _) ⟨_, rfl, IFJ.step hI rfl (JDl.pure hI.2 (by decide))⟩
        | n + 19, ho => omega
      · intro o ho b x w1 hI hA
        obtain rfl := Option.some.inj ho
        have hF : ∀ k, k < 19 → FDl mp g L1.length cap q ad cc k (x k) := fun k hk => hI.1 k (hA k hk)
        have hrow := JDl.at16 hI.2 (hA 16 (by decide))
        obtain ⟨a9, c9, hx16, _⟩ := row_form hrow
        rw [hx16] at hrow
        refine gstep_store rfl (wanted0 rfl) _ _ _ rfl _ _ (eval_at 130 18 _ (by kernel_rfl) (show 130 < 220 by decide) (hF 18 (by decide))) (eval_at 128 16 _ (by kernel_rfl) (show 128 < 220 by decide) hx16) _ (run_storeMs w1 _ _ _ _ _ (HCE.out w1 hI.2.1).1 (HCE.out w1 hI.2.1).2) ?_
        simp only [putAll, Act.put, List.setIfInBounds_toArray, List.set_cons_succ, List.set_cons_zero]
        go_wp2_with fail
        go_meet
        exact ⟨rfl, w1, _, hI.2.1, hrow, rfl⟩
    case rest =>
      obtain ⟨rfl, w9, v9, b9, hrow, rfl⟩ := hcut
      have b9' := HDR.out _ b9
      have hlen : (L1.take q ++ L1.drop (q + 1)).length = L1.length - 1 := by
        have := HQL.out
        rw [List.length_append, List.length_take, List.length_drop, Nat.min_eq_left (by omega)]; omega
      have M9 := HM.out.below b9'
      have hmpw : mp < wd.heap.size := Nat.lt_of_lt_of_le HM.out.ltm b2.size
      have hform : ∃ a9 c9, v9 = .slice a9 (L1.length - 1) c9 ∧ ((a9 = none ∧ L1.take q ++ L1.drop (q + 1) = [] ∧ c9 = 0) ∨ ∃ g9, a9 = some ⟨g9, 0, none⟩) ∧ ∀ g9, a9 = some ⟨g9, 0, none⟩ → wd.heap.size ≤ g9 := by
        rcases hrow.2 with ⟨h1, h2⟩ | ⟨g9, c9, cur, h1, h3, _⟩
        · exact ⟨none, 0, by rw [h1, h2], .inl ⟨rfl, List.eq_nil_of_length_eq_zero (by omega), rfl⟩, fun g9 h => (by cases h)⟩
        · exact ⟨_, c9, h1, .inr ⟨g9, rfl⟩, fun g' h => (by injection h with h; injection h with h _ _; rw [← h]; exact h3)⟩
      obtain ⟨a9, c9, rfl, hf9, hg9⟩ := hform
      have TB9 : TbW (w9.setCell ⟨mp, 0, none⟩ (.slice a9 (L1.length - 1) c9)) tb mb k L1.length T := by
        have hT9 := H2.out.table.below b9'
        exact ⟨(Below.heap_setCell w9 ⟨mp, 0, none⟩ _ tb H2.out.ne.1).trans hT9.table, hT9.map.keep0 (Below.heap_setCell w9 ⟨mp, 0, none⟩ _ mb H2.out.ne.2.1)⟩
      have MO9 : MoW (w9.setCell ⟨mp, 0, none⟩ (.slice a9 (L1.length - 1) c9)) mp a9 c9 (L1.take q ++ L1.drop (q + 1)) := by
        rw [← hlen] at hrow ⊢
        refine ⟨?_, (ownsRow_less hrow (Nat.zero_le _)).kept (row := some mp) ⟨rfl, rfl, rfl, by simp, fun k _ hk => heap_setCell_other w9 ⟨mp, 0, none⟩ k _ (fun e => hk (by simp [e]))⟩ ?_, hf9⟩
        · have := bset (i := 0) (u := .slice a9 (L1.take q ++ L1.drop (q + 1)).length c9) M9.box
          simpa using this
        · rcases hf9 with ⟨rfl, _, _⟩ | ⟨g9, rfl⟩
          · exact .inl rfl
          · have := hg9 g9 rfl
            exact .inr (by simp [Value.ownBlock]; omega)
      have N9 := (b9.block w.heap.size (by exact hlt2)).trans (show wd.drew.heap[w.heap.size]? = _ from HN2.out)
      have hwm : w.heap.size ≠ mp := by have := HM.out.ltm; omega
      have c1' : (w9.setCell ⟨mp, 0, none⟩ (.slice a9 (L1.length - 1) c9)).cell? ⟨w.heap.size, 1, none⟩ = some (.int .i64 qi) := by
        have h5 : (w9.setCell ⟨mp, 0, none⟩ (.slice a9 (L1.length - 1) c9)).heap[w.heap.size]? = _ := (Below.heap_setCell w9 ⟨mp, 0, none⟩ _ w.heap.size hwm).trans N9
        simp [World.cell?, h5]
      have bx : Below m w (w9.setCell ⟨mp, 0, none⟩ (.slice a9 (L1.length - 1) c9)) := (b9'.mono hm0).setCell (p := ⟨mp, 0, none⟩) H2.out.above.2.2.1 _
      have ox : Onl w (w9.setCell ⟨mp, 0, none⟩ (.slice a9 (L1.length - 1) c9)) mb mp (some ⟨g, 0, none⟩) := (Onl.below b9').box _
      have hmbs : mb < wd.heap.size := Nat.lt_of_lt_of_le H2.out.table.map.lt b2.size
      have htbs : tb < wd.heap.size := Nat.lt_of_lt_of_le H2.out.table.lt b2.size
      have hwds : m ≤ wd.heap.size := Nat.le_trans hm0 b2.size
      obtain ⟨wx, hwx⟩ : ∃ wx, wx = w9.setCell ⟨mp, 0, none⟩ (.slice a9 (L1.length - 1) c9) := ⟨_, rfl⟩
      rw [← hwx] at TB9 MO9 c1' bx ox ⊢
      have HMO := Lib.hid MO9
      have HG9 := Lib.hid hg9
      clear hwx hrow M9 b9 b9' N9 c1 MO9 hg9 hf9
      go_wp2_with fail
      refine (HCL.out _ TB9).mono ?_
      rintro e w10 ⟨rfl, L10⟩
      have M10 := HMO.out.left L10.2 H2.out.ne.2.1 (fun g9 h => by have := HG9.out g9 h; omega)
      have b10 := bx.trans (left10_below L10 H2.out.above.2.1 (by have := bx.size; exact Nat.le_trans hm0 this))
      go_wp2_with fail
      go_ret
      refine ⟨rfl, b10, ox.left bx.size L10.2, c9, a9, _, _, ⟨by rw [hlen]; exact L10.1.mono (Nat.le_succ _), M10, HR8.out, by rw [hlen]; have := H2.out.few; omega, fun x s hx => ?_, ⟨H2.out.ne.1, H2.out.ne.2.1, fun g9 h => ?_⟩, H2.out.above.1, H2.out.above.2.1, H2.out.above.2.2.1, ?_, fun g9 h => ?_⟩⟩
      · by_cases e : x = qi
        · rw [e, updS_same] at hx; cases hx
        · rw [updS_other e] at hx; exact H2.out.small x s hx
      · have := HG9.out g9 h; omega
      · exact Nat.le_trans hm0 b10.size
      · have := HG9.out g9 h; omega
end Go.Proofs.Ytckengglamkaaaa
