/- Net.Send: each message of the list is put in transit. No conditions beyond those in each statement. -/
import Derived.Test.YtfijidaohlnphaaNSendB
namespace Go.Proofs.Ytfijidaohlnphaa
open Go.RowKit
set_option linter.unusedVariables false
set_option linter.unusedSimpArgs false
set_option maxRecDepth 100000

theorem SndS.next {w0 w w' : World} {base nb : Nat} {now sent due : Int} {v0 v v' : Value} {L M M' X : List Fl} {Ms : List Mi} {i : Nat} {f : Fl} (hX : X.length = i) (hF : ∀ j, j < i → Fits (X.getD j Fl.zero) (Ms.getD j Mi.zero) due (sent + j)) (hP : M.Perm (L ++ X)) (hO : OwnN w0 v0 v) (hR : FrN nb v0.ownBlock w0 w)
    (hf : Fits f (Ms.getD i Mi.zero) due (sent + i)) (hp : M'.Perm (M ++ [f])) (hh : NHp w' base nb now (sent + i + 1) v' M') (ho : OwnN w v v') (hr : FrN nb v.ownBlock w w') : SndS w0 w' base nb now sent due v0 L Ms (i + 1) := by
  refine ⟨v', M', X ++ [f], by simp [hX], fun j hj => ?_, ?_, ?_, ?_, hR.trans hr hO⟩
  · by_cases e : j < i
    · rw [show (X ++ [f]).getD j Fl.zero = X.getD j Fl.zero by simp [List.getD_eq_getElem?_getD, List.getElem?_append_left (by omega : j < X.length)]]
      exact hF j e
    · obtain rfl : j = i := by omega
      rw [show (X ++ [f]).getD j Fl.zero = f by simp [List.getD_eq_getElem?_getD, ← hX]]
      exact hf
  · rw [← List.append_assoc]
    exact hp.trans (hP.append_right [f])
  · have e : sent + ((i + 1 : Nat) : Int) = sent + i + 1 := by push_cast; omega
    rw [e]; exact hh
  · rcases ho with h1 | ⟨q, h1, h2⟩
    · rcases hO with h3 | ⟨q, h3, h4⟩
      · exact .inl (h1.trans h3)
      · exact .inr ⟨q, h1.trans h3, h4⟩
    · exact .inr ⟨q, h1, Nat.le_trans hR.size h2⟩
set_option maxHeartbeats 16000000 in
theorem send_any {K : Nat → Prop} {w : World} {base nb : Nat} {now sent : Int} {v : Value} {L : List Fl} {lv : Value} {Ms : List Mi} (d : Int) (h : NHp w base nb now sent v L) (hm : MsR K w lv Ms) (hK : ∀ b, K b → b < w.heap.size ∧ b ≠ nb ∧ some b ≠ v.ownBlock)
    (hn0 : 0 ≤ now) (hn1 : now ≤ 2305843009213693952) (hs0 : 0 ≤ sent) (hs1 : sent + Ms.length ≤ 2305843009213693952) :
    Calls Try.prog 8 #[.pointer (some ⟨nb, 0, none⟩), .int .i64 d, lv] w fun e w' => e = .returned (.tuple #[]) ∧ SndS w w' base nb now sent (now + min (max d 0) 1048576) v L Ms (min Ms.length (2000 - L.length)) := by
  obtain ⟨due, hdue⟩ : ∃ due, due = now + min (max d 0) 1048576 := ⟨_, rfl⟩
  have e1 : wrap64 (now + min (max d 0) 1048576) = due := by rw [IntWalk.wrap64_in _ (by omega), hdue]
  rw [← hdue]
  have HS : Hid (SndS w w base nb now sent due v L Ms 0) := Lib.hid ⟨v, L, [], rfl, fun j hj => absurd hj (Nat.not_lt_zero _), by simp, by simpa using h, .inl rfl, FrN.refl _ _ _⟩
  have c0 := h.box.c0
  have HM := Lib.hid hm
  have HNN := Lib.hid (And.intro hn0 hn1)
  have HK := Lib.hid hK
  have HL := Lib.hid h.row.1
  have HS0 := Lib.hid hs0
  have HS1 := Lib.hid hs1
  obtain ⟨la, lc, rfl⟩ := hm.fm
  have HDU := Lib.hid hdue
  obtain ⟨n, hn⟩ : ∃ n, n = Ms.length := ⟨_, rfl⟩
  have HN := Lib.hid hn
  rw [← hn] at HM HS1 ⊢
  clear h hm hK hn0 hn1 hs0 hs1 hdue hn
  go_enter Try.func8, Try.ntmps8
  go_upto_region 1 with fail
  go_cut [6] (fun x wx => x = .int .i64 due ∧ wx = w)
  case first =>
    have hdu := HDU.out
    have HIF : Hid ((if d < 0 then (0 : Int) else d) = max d 0) := Lib.hid (by split <;> omega)
    have hb := HNN.out
    go_wp2_with fail
    all_goals go_meet
    all_goals (refine ⟨?_, rfl⟩; congr 1)
    all_goals (try rw [IntWalk.wrap64_in _ (by omega)])
    all_goals (have hif := HIF.out; clear e1 c0 HS HM; first | omega | (simp only [hif] at *; omega))
  case rest =>
  obtain ⟨rfl, hwc⟩ := hcut
  obtain rfl := hwc.symm
  clear c0 e1
  go_wp2_with fail
  go_loopw [21] (fun iv wr => ∃ i : Nat, iv = .int .i64 i ∧ i ≤ n ∧ Hid (SndS w wr base nb now sent due v L Ms i)) (fun iv _ => n - (intOf iv).toNat)
  case atStart => exact ⟨0, rfl, Nat.zero_le _, HS⟩
  case round =>
    obtain ⟨i, rfl, hin, HR⟩ := hrel
    clear HS
    by_cases hlt : i < n
    · have hlt2 : decide ((i : Int) < (n : Int)) = true := by simp; omega
      obtain ⟨v1, M, X, hX, hF, hP, hH, hO, hFr⟩ := HR.out
      have hkk : ∀ b, K b → wr.heap[b]? = w.heap[b]? := fun b hb => hFr.block b (HK.out b hb).1 (HK.out b hb).2.1 (HK.out b hb).2.2
      obtain ⟨g, o, hix, hmi⟩ := (HM.out.keep hkk).at_ i (by have := HN.out; omega)
      obtain ⟨x, hx⟩ : ∃ x, x = Ms.getD i Mi.zero := ⟨_, rfl⟩
      rw [← hx] at hmi
      have hldx := hmi.ld wr rfl
      unfold mgV Mi.u Mi.v at hldx
      have HLD := Lib.hid hldx
      have Z0 := MgB.new wr (.slice none 0 0) (.slice none 0 0) Mg.zero
      have bA := (Below.refl wr.heap.size wr).alloc (Nat.le_refl _) (.cells (mgA (.slice none 0 0) (.slice none 0 0) Mg.zero) 41)
      obtain ⟨W2, hst2, M2, k2, q2⟩ := storeM (a := x.ua) (n := x.un) (c := x.uc) (sa := x.va) (k := x.vn) (sc := x.vc) Z0 x.m
      have b2 := k2 wr.heap.size wr (Nat.le_refl _) bA
      unfold mgV at hst2
      unfold mgA at hst2
      simp only [Mg.zero] at hst2
      have HST := Lib.hid hst2
      have h2 : NHp W2 base nb now (sent + i) v1 M := ⟨hH.row.same (fun y hy => b2.block _ (hH.row.2.1 y hy).lt) (fun q hq => b2.block _ (hH.row.own hq).2.1), hH.box.same (b2.block _ hH.box.lt), hH.heap, hH.low⟩
      have hml : M.length = L.length + i := by rw [hP.length_eq, List.length_append, hX]
      have c2 := h2.box.c2
      obtain ⟨va, vc, hve, _⟩ := h2.row.form
      have HLE : Hid (Calls Try.prog 14 #[v1] W2 fun e w' => e = .returned (.int .i64 M.length) ∧ w' = W2) := Lib.hid (by rw [hve]; exact len_any va M.length vc W2)
      have HML0 := Lib.hid hml
      have HMR := Lib.hid h2.row.1
      have hli : i ≤ 2305843009213693952 := by have := HS1.out; have := HS0.out; omega
      have HX := Lib.hid hX
      have HF := Lib.hid hF
      have HP := Lib.hid hP
      have HO := Lib.hid hO
      have HFR := Lib.hid (hFr.trans (FrN.of_below (nb := nb) (r := v1.ownBlock) b2) hO)
      have HH2 := Lib.hid h2
      have HXX := Lib.hid hx
      have HM2 := Lib.hid M2
      have hlm := run_loadM M2
      unfold mgV at hlm
      have HLM2 := Lib.hid hlm
      have HOW : Hid (∀ W, Below W2.drew.heap.size W2.drew W → Calls Try.prog 16 #[mgV x.u x.v x.m] W fun e w' => ∃ a c a2 c2, e = .returned (mgV (.slice a x.un c) (.slice a2 x.vn c2) x.m) ∧ Below W.heap.size W w') := Lib.hid fun W hW => by
        have hkw : ∀ b, K b → W.heap[b]? = wr.heap[b]? := fun b hb => by
          have hbl : b < wr.heap.size := Nat.lt_of_lt_of_le (HK.out b hb).1 hFr.size
          exact (hW.block b (Nat.lt_of_lt_of_le hbl b2.size)).trans (b2.block b hbl)
        have hm2 := hmi.keep hkw
        exact own_any hm2.en hm2.sm (fun b hb => Nat.lt_of_lt_of_le (Nat.lt_of_lt_of_le (HK.out b hb).1 hFr.size) (Nat.le_trans b2.size hW.size)) hm2.b1 hm2.b2
      have HNL : Hid (nb < W2.drew.heap.size) := Lib.hid h2.box.lt
      have HC1 : Hid (W2.drew.cell? ⟨nb, 1, none⟩ = some (.int .i64 (sent + i))) := Lib.hid h2.box.c1
      have HML : Hid (wr.heap.size < W2.drew.heap.size) := Lib.hid M2.lt
      have HLM : Hid (∀ W : World, W.heap[wr.heap.size]? = W2.drew.heap[wr.heap.size]? → (Instr.loadAt 41 (.pointer (some ⟨wr.heap.size, 0, none⟩))).run Try.prog W = .ok (mgV x.u x.v x.m) W) := Lib.hid fun W hW => run_loadM (show MgB W wr.heap.size _ _ x.m from hW.trans M2)
      clear hX hF hP hH hO hFr hkk hmi hx hldx Z0 bA hst2 M2 k2 q2 b2 h2 hve hml hlm HR
      have hix' := hix
      by_cases hfull : 2000 ≤ M.length
      · have hf1 : decide ((2000 : Int) ≤ (M.length : Int)) = true := by simp; omega
        have HFU := Lib.hid hfull
        clear hfull
        go_wp2_with (first | (refine wpList_store_run HST.out rfl rfl rfl rfl ?_) | (refine wpList_load_run HLD.out rfl rfl rfl ?_))
        refine HLE.out.mono ?_
        rintro e w3 ⟨rfl, rfl⟩
        clear HST HLD HLE
        go_wp2_with fail
        refine bodyPost_ret (results_none rfl _ _ _) rfl ?_
        have e : min n (2000 - L.length) = i := by have := HFU.out; have := HML0.out; have := HMR.out; have := HL.out; omega
        rw [e]
        exact ⟨rfl, v1, M, X, HX.out, HF.out, HP.out, HH2.out, HO.out, HFR.out⟩
      · have hf1 : decide ((2000 : Int) ≤ (M.length : Int)) = false := by simp; omega
        have HFU := Lib.hid hfull
        clear hfull
        go_wp2_with (first | (refine wpList_store_run HST.out rfl rfl rfl rfl ?_) | (refine wpList_load_run HLD.out rfl rfl rfl ?_))
        refine HLE.out.mono ?_
        rintro e w3 ⟨rfl, rfl⟩
        clear HST HLD HLE
        go_upto_region 6 with fail
        refine wp_region_inv_last 14 (IFJ (FSe nb wr.heap.size due (sent + i) x) (JSe w3.drew due (sent + i) x)) (by kernel_rfl) (by kernel_rfl) (by kernel_rfl) (by kernel_rfl) (by kernel_rfl) ?_ ?_ ?_
        · intro z
          exact ⟨fun j hj => (by cases hj), ⟨Below.refl _ _, fun h => (by cases h), fun h => (by cases h), fun h => (by cases h)⟩⟩
        · intro k o hk ho b z w1 hI hbi hW
          match k, ho with
        | 0, ho =>
          obtain rfl := Option.some.inj ho
          exact gstep_move rfl (wanted0 rfl) _ rfl _ (eval_of 0 _ (by kernel_rfl) rfl) ⟨_, rfl, IFJ.step hI rfl (hI.2.pure (by decide) (by decide) (fun h => absurd h (by decide)))⟩
        | 1, ho =>
          obtain rfl := Option.some.inj ho
          exact gstep_nil rfl (wanted0 rfl) _ rfl _ (eval_at 31 0 _ (by kernel_rfl) (show 31 < 54 by decide) (hI.1 0 (hW 0 (by kernel_rfl)))) ⟨_, rfl, IFJ.step hI rfl (hI.2.pure (by decide) (by decide) (fun h => absurd h (by decide)))⟩
        | 2, ho =>
          obtain rfl := Option.some.inj ho
          exact gstep_field rfl (wanted0 rfl) _ _ _ rfl _ (eval_at 32 1 _ (by kernel_rfl) (show 32 < 54 by decide) (hI.1 1 (hW 1 (by kernel_rfl)))) _ (run_fN2 _ _) ⟨_, rfl, IFJ.step hI rfl (hI.2.pure (by decide) (by decide) (fun h => absurd h (by decide)))⟩
        | 3, ho =>
          obtain rfl := Option.some.inj ho
          exact gstep_mk rfl (wanted0 rfl) _ _ rfl _ (eval_at 33 2 _ (by kernel_rfl) (show 33 < 54 by decide) (hI.1 2 (hW 2 (by kernel_rfl)))) _ (run_mk w1 nb) ⟨_, rfl, IFJ.step hI rfl (hI.2.pure (by decide) (by decide) (fun h => absurd h (by decide)))⟩
        | 4, ho =>
          obtain rfl := Option.some.inj ho
          exact gstep_move rfl (wanted0 rfl) _ rfl _ (eval_of 6 _ (by kernel_rfl) rfl) ⟨_, rfl, IFJ.step hI rfl (hI.2.pure (by decide) (by decide) (fun h => absurd h (by decide)))⟩
        | 5, ho =>
          obtain rfl := Option.some.inj ho
          exact gstep_move rfl (wanted0 rfl) _ rfl _ (eval_of 0 _ (by kernel_rfl) rfl) ⟨_, rfl, IFJ.step hI rfl (hI.2.pure (by decide) (by decide) (fun h => absurd h (by decide)))⟩
        | 6, ho =>
          obtain rfl := Option.some.inj ho
          exact gstep_nil rfl (wanted0 rfl) _ rfl _ (eval_at 36 5 _ (by kernel_rfl) (show 36 < 54 by decide) (hI.1 5 (hW 5 (by kernel_rfl)))) ⟨_, rfl, IFJ.step hI rfl (hI.2.pure (by decide) (by decide) (fun h => absurd h (by decide)))⟩
        | 7, ho =>
          obtain rfl := Option.some.inj ho
          exact gstep_field rfl (wanted0 rfl) _ _ _ rfl _ (eval_at 37 6 _ (by kernel_rfl) (show 37 < 54 by decide) (hI.1 6 (hW 6 (by kernel_rfl)))) _ (run_fN1 _ _) ⟨_, rfl, IFJ.step hI rfl (hI.2.pure (by decide) (by decide) (fun h => absurd h (by decide)))⟩
        | 8, ho =>
          obtain rfl := Option.some.inj ho
          exact gstep_load rfl (wanted0 rfl) _ _ rfl _ (eval_at 38 7 _ (by kernel_rfl) (show 38 < 54 by decide) (hI.1 7 (hW 7 (by kernel_rfl)))) _ (run_ld w1 nb 1 _ ((hI.2.lo.cell (p := ⟨nb, 1, none⟩) HNL.out).trans HC1.out)) ⟨_, rfl, IFJ.step hI rfl (hI.2.pure (by decide) (by decide) (fun h => absurd h (by decide)))⟩
        | 9, ho =>
          obtain rfl := Option.some.inj ho
          exact gstep_load rfl (wanted0 rfl) _ _ rfl _ (eval_of 8 _ (by kernel_rfl) rfl) _ (HLM.out w1 (hI.2.lo.block _ HML.out)) ⟨_, rfl, IFJ.step hI rfl (hI.2.pure (by decide) (by decide) (fun h => absurd h (by decide)))⟩
        | 10, ho =>
          obtain rfl := Option.some.inj ho
          refine gstep_call rfl (wanted0 rfl) _ _ _ rfl _ (eval_at 40 9 _ (by kernel_rfl) (show 40 < 54 by decide) (hI.1 9 (hW 9 (by kernel_rfl)))) (call_own w1 _) ?_
          refine (HOW.out w1 hI.2.lo).mono ?_
          rintro e w2 ⟨a, c, a2, c2, rfl, b2⟩
          exact ⟨_, rfl, _, rfl, IFJ.step hI ⟨a, c, a2, c2, rfl⟩ (hI.2.own hbi b2)⟩
        | 11, ho =>
          obtain rfl := Option.some.inj ho
          obtain ⟨a, c, a2, c2, h10⟩ := hI.1 10 (hW 10 (by kernel_rfl))
          exact gstep_build3 rfl (wanted0 rfl) _ _ _ _ rfl _ _ _ (eval_at 35 4 _ (by kernel_rfl) (show 35 < 54 by decide) (hI.1 4 (hW 4 (by kernel_rfl)))) (eval_at 39 8 _ (by kernel_rfl) (show 39 < 54 by decide) (hI.1 8 (hW 8 (by kernel_rfl)))) (eval_at 41 10 _ (by kernel_rfl) (show 41 < 54 by decide) h10) _ (run_bld w1 _ _ a _ c a2 _ c2 _) ⟨_, rfl, IFJ.step hI ⟨a, c, a2, c2, rfl⟩ (hI.2.pure (by decide) (by decide) (fun _ => hW 10 (by kernel_rfl)))⟩
        | 12, ho =>
          obtain rfl := Option.some.inj ho
          obtain ⟨a, c, a2, c2, h11⟩ := hI.1 11 (hW 11 (by kernel_rfl))
          exact gstep_box rfl (wanted0 rfl) _ _ rfl _ (eval_at 42 11 _ (by kernel_rfl) (show 42 < 54 by decide) h11) _ _ (run_box w1 _) ⟨_, rfl, IFJ.step hI trivial (hI.2.boxed hbi (hW 11 (by kernel_rfl)) ⟨0, due, sent + i, a, x.un, c, a2, x.vn, c2, x.m⟩ ⟨rfl, rfl, rfl, rfl⟩)⟩
        | 13, ho =>
          obtain rfl := Option.some.inj ho
          obtain ⟨_, f, hzf, hf, hfit⟩ := hI.2.fl (hW 12 (by kernel_rfl))
          exact gstep_mk rfl (wanted0 rfl) _ _ rfl _ (eval_at 43 12 _ (by kernel_rfl) (show 43 < 54 by decide) hzf) _ (run_mkf w1 f.p) ⟨_, rfl, IFJ.step hI trivial (hI.2.made (hW 12 (by kernel_rfl)) (by rw [hzf]; rfl))⟩
        | n + 14, ho => omega
        · intro o ho b z w1 hI hA
          obtain rfl := Option.some.inj ho
          have h3 : z 3 = .iface 54 (.pointer (some ⟨nb, 2, none⟩)) := hI.1 3 (hA 3 (by decide))
          obtain ⟨_, f, hzf, hf, hfit⟩ := hI.2.fl (hA 12 (by decide))
          have h13 := (hI.2.mi (hA 13 (by decide))).1
          rw [hzf] at h13
          have hlo := hI.2.lo
          have hh1 : NHp w1 base nb now (sent + i) v1 M := ⟨HH2.out.row.same (fun y hy => hlo.block _ (HH2.out.row.2.1 y hy).lt) (fun q hq => hlo.block _ (HH2.out.row.own hq).2.1), HH2.out.box.same (hlo.block _ HH2.out.box.lt), HH2.out.heap, HH2.out.low⟩
          refine gstep_call2 rfl (wanted0 rfl) _ _ _ _ rfl _ _ (eval_at 34 3 _ (by kernel_rfl) (show 34 < 54 by decide) h3) (eval_at 44 13 _ (by kernel_rfl) (show 44 < 54 by decide) h13) (call_hpush w1 _ _) ?_
          refine (hpush_any hh1 (by have := HFU.out; omega) f hf).mono ?_
          rintro e w5 ⟨rfl, v5, M5, hp5, hh5, ho5, hf5⟩
          refine ⟨_, rfl, ?_⟩
          simp only [putAll, Act.put, List.setIfInBounds_toArray, List.set_cons_succ, List.set_cons_zero]
          have HP5 := Lib.hid hp5
          have HH5 := Lib.hid hh5
          have HO5 : Hid (OwnN w3 v1 v5) := Lib.hid (ho5.imp id fun ⟨q, h1, h2⟩ => ⟨q, h1, Nat.le_trans hlo.size h2⟩)
          have HF5 : Hid (FrN nb v1.ownBlock w3 w5) := Lib.hid (FrN.undrew ((FrN.of_below (nb := nb) (r := v1.ownBlock) hlo).trans hf5 (.inl rfl)))
          have HFI := Lib.hid hfit
          have c1 := hh5.box.c1
          have f1 := hh5.box.fz 1
          have e6 : wrap64 (sent + (i : Int) + 1) = sent + (i : Int) + 1 := IntWalk.wrap64_in _ (by have := HS0.out; have := HS1.out; omega)
          have e7 : wrap64 ((i : Int) + 1) = (i : Int) + 1 := IntWalk.wrap64_in _ (by omega)
          clear hI hA h3 h13 hzf hf hfit hlo hh1 hp5 hh5 ho5 hf5 HOW HNL HC1 HML HLM hix hix'
          go_wp2_with fail
          go_roundw
          case rel =>
            refine ⟨i + 1, by push_cast; rfl, hlt, Lib.hid ?_⟩
            have hfx := HFI.out
            rw [HXX.out] at hfx
            exact SndS.next HX.out HF.out HP.out HO.out HFR.out hfx HP5.out (HH5.out.put (HH5.out.box.set1 _) (fun b hb => Below.heap_setCell _ ⟨nb, 1, none⟩ _ b hb)) HO5.out HF5.out.set
          case measure => simp [intOf]; omega
    · have hlt2 : decide ((i : Int) < (n : Int)) = false := by simp; omega
      obtain rfl : i = n := by omega
      clear hlt
      go_wp2_with fail
      refine bodyPost_end (results_none rfl _ _ _) rfl ?_
      have e : min i (2000 - L.length) = i := by
        obtain ⟨v1, M, X, hX, _, hP, hH, _⟩ := HR.out
        have h1 := hH.row.1
        rw [hP.length_eq, List.length_append, hX] at h1
        omega
      rw [e]
      exact ⟨rfl, HR.out⟩
end Go.Proofs.Ytfijidaohlnphaa
