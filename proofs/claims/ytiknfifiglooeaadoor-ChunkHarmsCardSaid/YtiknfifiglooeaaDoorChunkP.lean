/- Mend: a chunk written again, on any device; what it answers. No conditions beyond those in each statement. A whole snapshot in an area of a device: what Chunk, Hurt and Mend answer there; nothing amiss with the power. No conditions beyond those in each statement. A store's device when the power fails at any time: what is there behind Put and behind Mend. No program. -/
import Derived.Test.YtiknfifiglooeaaDoorChunkSt
import Derived.Test.YtiknfifiglooeaaDoorRegP
namespace Go.Proofs.YtiknfifiglooeaaDoor
section
open Go Go.RowKit Go.Proofs.Tryd
set_option linter.unusedVariables false
set_option maxRecDepth 100000

theorem toList_beq (x y : ByteArray) : (x.toList == y.toList) = decide (x = y) := by
  rw [Lib.toList_data, Lib.toList_data]
  by_cases h : x = y
  · subst h; simp
  · rw [decide_eq_false h]
    refine beq_eq_false_iff_ne.2 (fun e => h ?_)
    obtain ⟨⟨x⟩⟩ := x
    obtain ⟨⟨y⟩⟩ := y
    simp at e
    rw [e]
open Classical in
/-- What Mend answers, and the device behind it. -/
noncomputable def mendF (D : Dv) (base area : Int) (l : Ls) (k : Nat) (c : ByteArray) : Int × Dv :=
  if matchB l k c = false then (1, D) else if chunkF D base area l k = (c, 0) then D.flush else D.one (base + area * 66 + 2 + (k : Int)) (chunkR l.index (k : Int) c)
set_option maxHeartbeats 4000000 in
theorem cmend_any {m : Nat} {E : Nat → Prop} {w : World} {b B : Nat} {base : Int} {l : Ls} {sv : Value} {area : Int} {D : Dv} (k : Nat) (c : ByteArray) (h : StoW m E w b B base l sv area D) (h0 : l.index ≠ 0) (hk : k < l.sums.length) (hk2 : k ≤ 1000000) (hc : c.size ≤ maxLen) (hm : m ≤ w.heap.size) (ht : ∀ x, Below m w x → Tabs x) (hw : D.writes ≤ 1073741000) :
    Calls Tryd.prog 46 #[.pointer (some ⟨b, 0, none⟩), .int .i64 (k : Int), .string c] w fun e w' => e = .returned (.int .i64 (mendF D base area l k c).1) ∧ StoW m E w' b B base l sv area (mendF D base area l k c).2 ∧ Below m w w' ∧ Kept E w w' := by
  obtain ⟨i, t, n, ss⟩ := l
  obtain ⟨a, cap, rfl, hl, _⟩ := id h.sums
  simp only at hl hk h0
  have hin : -9223372036854775808 ≤ (k : Int) ∧ (k : Int) ≤ 9223372036854775807 := by omega
  have HH := Lib.hid (chas_any (k : Int) hin h.st)
  rw [show decide (i ≠ 0 ∧ 0 ≤ (k : Int) ∧ (k : Int) < (ss.length : Int)) = true by simp [h0]; omega] at HH
  have HM := Lib.hid (cmatches_any ⟨i, t, n, ss⟩ (.slice a ss.length cap) k c w h.sums hk h.bytes (ht w (Below.refl _ _)) hc)
  unfold lsV at HM
  simp only at HM
  obtain ⟨⟨c0, c1, c2, c3, c4, c5, c6⟩, _⟩ := h.st.cells
  simp only at c2 c3 c4 c5
  have H := Lib.hid h
  have HT := Lib.hid ht
  by_cases hma : matchB ⟨i, t, n, ss⟩ k c = true
  case neg =>
    have hmf : matchB ⟨i, t, n, ss⟩ k c = false := by simpa using hma
    rw [hmf] at HM
    have HV : Hid (mendF D base area ⟨i, t, n, ss⟩ k c = (1, D)) := by show _ = _; unfold mendF; exact if_pos hmf
    clear h ht hma hmf
    go_enter Tryd.func46, Tryd.ntmps46
    go_wp2_with fail
    refine HH.out.mono ?_
    rintro e w1 ⟨rfl, rfl⟩
    go_wp2_with fail
    refine HM.out.mono ?_
    rintro e w1 ⟨rfl, hb1⟩
    have S1 := H.out.below hb1
    have hbl : Below m w w1 := hb1.mono hm
    have hkp : Kept E w w1 := Kept.of_below H.out.dev.lt hb1
    clear HH HM
    go_wp2_with fail
    go_ret
    exact ⟨by rw [HV.out]; rfl, by rw [HV.out]; exact S1, hbl, hkp⟩
  rw [hma] at HM
  have HMF : Hid (mendF D base area ⟨i, t, n, ss⟩ k c = if chunkF D base area ⟨i, t, n, ss⟩ k = (c, 0) then D.flush else D.one (base + area * 66 + 2 + (k : Int)) (chunkR i (k : Int) c)) := by
    show _ = _
    unfold mendF
    rw [if_neg (by rw [hma]; decide)]
  obtain ⟨q, hq⟩ : ∃ q : Int, q = base + area * 66 + 2 + (k : Int) := ⟨_, rfl⟩
  rw [← hq] at HMF
  have HCK := Lib.hid (fun (W : World) (hb : Below w.heap.size w W) => cchunk_any k (h.below hb) h0 hk (ht W (hb.mono hm)) (Nat.le_trans hw (by decide)))
  obtain ⟨r, x, hCF⟩ : ∃ r x, chunkF D base area ⟨i, t, n, ss⟩ k = (r, x) := ⟨_, _, rfl⟩
  rw [hCF] at HMF HCK
  have HBA : Hid (0 ≤ base ∧ base ≤ 1000000000) := h.base
  have HAR : Hid (area = 0 ∨ area = 1) := h.area
  have HQ : Hid (base + area * 66 + 2 + (k : Int) = q) := hq.symm
  have HEB : Hid (E b) := h.eb
  have HMM := Lib.hid hm
  have HWW := Lib.hid hw
  have HK2 := Lib.hid hk2
  clear h ht hma hq hCF hm hw hk2
  go_enter Tryd.func46, Tryd.ntmps46
  go_wp2_with fail
  refine HH.out.mono ?_
  rintro e w1 ⟨rfl, rfl⟩
  go_wp2_with fail
  refine HM.out.mono ?_
  rintro e w1 ⟨rfl, hb1⟩
  have HB1 := Lib.hid hb1
  clear hb1 HH HM
  go_wp2_with fail
  refine (HCK.out w1 HB1.out).mono ?_
  rintro e w2 ⟨rfl, hb2⟩
  have HB2 := Lib.hid (HB1.out.trans (hb2.mono HB1.out.size))
  have HS2 := Lib.hid (H.out.below HB2.out)
  obtain ⟨⟨d0, d1, d2, d3, d4, d5, d6⟩, _⟩ := HS2.out.st.cells
  simp only at d2 d3 d4 d5
  clear hb2 HB1 HCK c0 c1 c2 c3 c4 c5 c6
  obtain ⟨X, hX⟩ : ∃ X : Bool, (r.toList == c.toList) = X := ⟨_, rfl⟩
  have hXd : X = decide (r = c) := by rw [← hX, toList_beq]
  by_cases hcase : r = c ∧ x = 0
  · obtain ⟨rfl, rfl⟩ := hcase
    have HV : Hid (mendF D base area ⟨i, t, n, ss⟩ k r = D.flush) := by show _ = _; rw [HMF.out, if_pos rfl]
    have HXX : X = true := by rw [hXd]; simp
    subst HXX
    clear hXd
    have HFL := Lib.hid (devw_flush (n := m) (Nat.le_trans HMM.out HB2.out.size) (by have := HWW.out; omega) HS2.out.dev)
    go_wp2_with fail
    refine HFL.out.mono ?_
    rintro e w3 ⟨rfl, D3, b3, k3⟩
    have S3 := HS2.out.turn D3 k3 (fun _ h => h) b3.size
    have hbl : Below m w w3 := (HB2.out.mono HMM.out).trans b3
    have hkp : Kept E w w3 := (Kept.of_below H.out.dev.lt HB2.out).trans k3
    clear D3 b3 k3 HFL
    go_wp2_with fail
    go_ret
    exact ⟨by rw [HV.out]; rfl, by rw [HV.out]; exact S3, hbl, hkp⟩
  · have HV : Hid (mendF D base area ⟨i, t, n, ss⟩ k c = D.one q (chunkR i (k : Int) c)) := by
      show _ = _
      rw [HMF.out, if_neg (fun e => hcase ⟨congrArg Prod.fst e, congrArg Prod.snd e⟩)]
    have hnot : x = 0 → X = false := fun hx => by rw [hXd]; exact decide_eq_false (fun e => hcase ⟨e, hx⟩)
    clear hXd hcase
    have hx2 : (x = 0 ∧ X = false) ∨ (x == 0) = false := by
      by_cases hx : x = 0
      · exact .inl ⟨hx, hnot hx⟩
      · exact .inr (beq_eq_false_iff_ne.2 hx)
    clear hnot
    rcases hx2 with ⟨rfl, rfl⟩ | hx2
    all_goals
      go_upto_region 6 with fail
      have HBU := Lib.hid (fun (W : World) (hb : Below w2.drew.heap.size w2.drew W) => show Below w.heap.size w W from (HB2.out.trans ((((Below.refl _ w2).drew).trans hb).mono HB2.out.size)))
      have HBW := Lib.hid (fun (W : World) (hb : Below w2.drew.heap.size w2.drew W) => show Below m w W from (HBU.out W hb).mono HMM.out)
      have HKW := Lib.hid (fun (W : World) (hb : Below w2.drew.heap.size w2.drew W) => show Kept E w W from Kept.of_below H.out.dev.lt (HBU.out W hb))
      have HSB := Lib.hid (fun (W : World) (hb : Below w2.drew.heap.size w2.drew W) => H.out.below (HBU.out W hb))
      have HCB := Lib.hid (fun (W : World) (hb : Below w2.drew.heap.size w2.drew W) => cchunkb_any (HSB.out W hb).st area (k : Int) HBA.out (by have := HAR.out; omega) ⟨by omega, by have := HK2.out; omega⟩)
      rw [HQ.out] at HCB
      have HST := Lib.hid (fun (W : World) (hb : Below w2.drew.heap.size w2.drew W) => cstore_any (m := m) q (chunkR i (k : Int) c) (HSB.out W hb).dev (HSB.out W hb).st HEB.out (Nat.le_trans HMM.out (HBU.out W hb).size) (fun x hx => HT.out x ((HBW.out W hb).trans hx)) HWW.out)
      refine wp_region_steps_tail 15 1 (atP [fun v _ => v = (.pointer (some ⟨b, 0, none⟩)),
        fun v _ => v = (.pointer (some ⟨b, 0, none⟩)),
        fun v _ => v = (.pointer (some ⟨b, 0, none⟩)),
        fun v _ => v = (.pointer (some ⟨b, 0, none⟩)),
        fun v _ => v = (.pointer (some ⟨b, 6, none⟩)),
        fun v _ => v = (.int .i64 area),
        fun v _ => v = (.int .i64 (k : Int)),
        fun v _ => v = (.int .i64 q),
        fun v _ => v = (.pointer (some ⟨b, 0, none⟩)),
        fun v _ => v = (.pointer (some ⟨b, 0, none⟩)),
        fun v _ => v = (.pointer (some ⟨b, 2, none⟩)),
        fun v _ => v = (.agg #[.int .i64 i, .int .i64 t, .int .i64 n, .slice a ss.length cap]),
        fun v _ => v = (.int .i64 (k : Int)),
        fun v _ => v = (.string c),
        fun v _ => v = (recV (chunkR i (k : Int) c))]) (fun w w' => Below w.heap.size w w') (by kernel_rfl) (by kernel_rfl) (by kernel_rfl) (by kernel_rfl) (by kernel_rfl) (by kernel_rfl) (Below.refl _ _) (fun i v w w' _ h1 h2 => atP_keep (R := fun w w' => Below w.heap.size w w') (atK1 (fun _ _ _ h _ => h) (atK1 (fun _ _ _ h _ => h) (atK1 (fun _ _ _ h _ => h) (atK1 (fun _ _ _ h _ => h) (atK1 (fun _ _ _ h _ => h) (atK1 (fun _ _ _ h _ => h) (atK1 (fun _ _ _ h _ => h) (atK1 (fun _ _ _ h _ => h) (atK1 (fun _ _ _ h _ => h) (atK1 (fun _ _ _ h _ => h) (atK1 (fun _ _ _ h _ => h) (atK1 (fun _ _ _ h _ => h) (atK1 (fun _ _ _ h _ => h) (atK1 (fun _ _ _ h _ => h) (atK1 (fun _ _ _ h _ => h) (atK0)))))))))))))))) i h1 h2) (fun u v w h1 h2 => h1.trans (h2.mono h1.size)) ?_ ?_
      · intro j o hj ho x W1 hR hF _
        match j, ho with
        | 0, ho =>
          obtain rfl := Option.some.inj ho
          exact gstep_move rfl (wanted0 rfl) _ rfl _ (eval_of 0 _ (by kernel_rfl) rfl) ⟨_, rfl, rfl, Below.refl _ _⟩
        | 1, ho =>
          obtain rfl := Option.some.inj ho
          exact gstep_move rfl (wanted0 rfl) _ rfl _ (eval_of 0 _ (by kernel_rfl) rfl) ⟨_, rfl, rfl, Below.refl _ _⟩
        | 2, ho =>
          obtain rfl := Option.some.inj ho
          exact gstep_move rfl (wanted0 rfl) _ rfl _ (eval_of 0 _ (by kernel_rfl) rfl) ⟨_, rfl, rfl, Below.refl _ _⟩
        | 3, ho =>
          obtain rfl := Option.some.inj ho
          exact gstep_nil rfl (wanted0 rfl) _ rfl _ (eval_at 43 2 _ (by kernel_rfl) (show 43 < 57 by decide) (hF 2 (by kernel_rfl))) ⟨_, rfl, rfl, Below.refl _ _⟩
        | 4, ho =>
          obtain rfl := Option.some.inj ho
          exact gstep_field rfl (wanted0 rfl) _ _ _ rfl _ (eval_at 44 3 _ (by kernel_rfl) (show 44 < 57 by decide) (hF 3 (by kernel_rfl))) _ ((by go_simp)) ⟨_, rfl, rfl, Below.refl _ _⟩
        | 5, ho =>
          obtain rfl := Option.some.inj ho
          exact gstep_load rfl (wanted0 rfl) _ _ rfl _ (eval_at 45 4 _ (by kernel_rfl) (show 45 < 57 by decide) (hF 4 (by kernel_rfl))) _ (run_loadI W1 _ _ (HSB.out W1 hR).st.cells.1.2.2.2.2.2.2) ⟨_, rfl, rfl, Below.refl _ _⟩
        | 6, ho =>
          obtain rfl := Option.some.inj ho
          exact gstep_move rfl (wanted0 rfl) _ rfl _ (eval_of 1 _ (by kernel_rfl) rfl) ⟨_, rfl, rfl, Below.refl _ _⟩
        | 7, ho =>
          obtain rfl := Option.some.inj ho
          refine gstep_call3 rfl (wanted0 rfl) _ _ _ _ _ rfl _ _ _ (eval_at 42 1 _ (by kernel_rfl) (show 42 < 57 by decide) (hF 1 (by kernel_rfl))) (eval_at 46 5 _ (by kernel_rfl) (show 46 < 57 by decide) (hF 5 (by kernel_rfl))) (eval_at 47 6 _ (by kernel_rfl) (show 47 < 57 by decide) (hF 6 (by kernel_rfl))) (by go_simp) ?_
          refine (HCB.out W1 hR).mono ?_
          rintro e w2 ⟨rfl, rfl⟩
          exact ⟨_, rfl, _, rfl, rfl, Below.refl _ _⟩
        | 8, ho =>
          obtain rfl := Option.some.inj ho
          exact gstep_move rfl (wanted0 rfl) _ rfl _ (eval_of 0 _ (by kernel_rfl) rfl) ⟨_, rfl, rfl, Below.refl _ _⟩
        | 9, ho =>
          obtain rfl := Option.some.inj ho
          exact gstep_nil rfl (wanted0 rfl) _ rfl _ (eval_at 49 8 _ (by kernel_rfl) (show 49 < 57 by decide) (hF 8 (by kernel_rfl))) ⟨_, rfl, rfl, Below.refl _ _⟩
        | 10, ho =>
          obtain rfl := Option.some.inj ho
          exact gstep_field rfl (wanted0 rfl) _ _ _ rfl _ (eval_at 50 9 _ (by kernel_rfl) (show 50 < 57 by decide) (hF 9 (by kernel_rfl))) _ ((by go_simp)) ⟨_, rfl, rfl, Below.refl _ _⟩
        | 11, ho =>
          obtain rfl := Option.some.inj ho
          exact gstep_load rfl (wanted0 rfl) _ _ rfl _ (eval_at 51 10 _ (by kernel_rfl) (show 51 < 57 by decide) (hF 10 (by kernel_rfl))) _ (run_loadCl W1 _ _ _ _ _ _ _ _ _ _ (HSB.out W1 hR).st) ⟨_, rfl, rfl, Below.refl _ _⟩
        | 12, ho =>
          obtain rfl := Option.some.inj ho
          exact gstep_move rfl (wanted0 rfl) _ rfl _ (eval_of 1 _ (by kernel_rfl) rfl) ⟨_, rfl, rfl, Below.refl _ _⟩
        | 13, ho =>
          obtain rfl := Option.some.inj ho
          exact gstep_move rfl (wanted0 rfl) _ rfl _ (eval_of 2 _ (by kernel_rfl) rfl) ⟨_, rfl, rfl, Below.refl _ _⟩
        | 14, ho =>
          obtain rfl := Option.some.inj ho
          refine gstep_call3 rfl (wanted0 rfl) _ _ _ _ _ rfl _ _ _ (eval_at 52 11 _ (by kernel_rfl) (show 52 < 57 by decide) (hF 11 (by kernel_rfl))) (eval_at 53 12 _ (by kernel_rfl) (show 53 < 57 by decide) (hF 12 (by kernel_rfl))) (eval_at 54 13 _ (by kernel_rfl) (show 54 < 57 by decide) (hF 13 (by kernel_rfl))) (by go_simp) ?_
          refine (cchunkr_any i t n (.slice a ss.length cap) ⟨_, _, _, rfl⟩ (k : Int) c W1).mono ?_
          rintro e w2 ⟨rfl, hb⟩
          exact ⟨_, rfl, _, rfl, rfl, hb⟩
        | n + 15, ho => exact absurd hj (by omega)
      · intro x w5 hR hF
        refine gstep_call3 rfl (wanted0 rfl) _ _ _ _ _ rfl _ _ _ (eval_at 41 0 _ (by kernel_rfl) (show 41 < 57 by decide) (hF 0 (by decide))) (eval_at 48 7 _ (by kernel_rfl) (show 48 < 57 by decide) (hF 7 (by decide))) (eval_at 55 14 _ (by kernel_rfl) (show 55 < 57 by decide) (hF 14 (by decide))) (by go_simp) ?_
        refine (HST.out w5 hR).mono ?_
        rintro e w6 ⟨rfl, D6, b6, k6⟩
        have S6 := (HSB.out w5 hR).turn D6 k6 (fun _ h => h) b6.size
        have hbl : Below m w w6 := (HBW.out w5 hR).trans b6
        have hkp : Kept E w w6 := (HKW.out w5 hR).trans k6
        refine ⟨_, rfl, ?_⟩
        unfold tailK
        refine gstep_assign rfl (wanted0 rfl) _ rfl (.int .i64 (D.one q (chunkR i (k : Int) c)).1) ?_ ?_
        · simp only [putAll, Act.put, List.setIfInBounds_toArray, List.set_cons_succ, List.set_cons_zero]
          rfl
        · unfold tailK
          simp only [putAll, Act.put, List.setIfInBounds_toArray, List.set_cons_succ, List.set_cons_zero]
          clear hR hF D6 b6 k6
          go_wp2_with fail
          go_ret
          exact ⟨by rw [HV.out]; rfl, by rw [HV.out]; exact S6, hbl, hkp⟩
end
section
open Go Go.RowKit Go.Proofs.Tryd
set_option linter.unusedVariables false
set_option maxRecDepth 100000

/-- The chunks of a snapshot, at block q. -/
def Pieces (C : Ct) (q : Nat) (i : Int) (s : ByteArray) : Prop := ∀ k, k < cutN s.size → C (q + k) = (chunkR i (k : Int) (cutAt s k), 1)
/-- A snapshot in the area that begins at block a. -/
structure Snap (C : Ct) (a : Nat) (i t : Int) (s : ByteArray) : Prop where
  l0 : C a = (listR (ofL i t s), 1)
  l1 : C (a + 1) = (listR (ofL i t s), 1)
  ck : Pieces C (a + 2) i s
theorem putC_snap (C : Ct) (a : Nat) (i t : Int) (s : ByteArray) : Snap (putC C a i t s) a i t s := ⟨putC_l0, putC_l1, fun _ hk => putC_ck hk⟩
theorem Snap.out {C C' : Ct} {a : Nat} {i t : Int} {s : ByteArray} (h : Snap C a i t s) (hs : s.size ≤ 25600) (he : ∀ j, a ≤ j → j < a + 66 → C' j = C j) : Snap C' a i t s := by
  have := cutN_le.2 hs
  exact ⟨(he a (by omega) (by omega)).trans h.l0, (he (a + 1) (by omega) (by omega)).trans h.l1, fun k hk => (he (a + 2 + k) (by omega) (by omega)).trans (h.ck k hk)⟩
theorem ofL_sums (i t : Int) (s : ByteArray) : (ofL i t s).sums.length = cutN s.size := sumsOf_length s
section
variable {m : Nat} {E : Nat → Prop} {w x : World} {b B M base : Nat} {l : Ls} {sv : Value} {ar : Nat} {D D' : Dv} {i t : Int} {s : ByteArray}
theorem st_hurt0 (h : StC m E w b B M base (ofL i t s) sv ar D) (hg : (ofL i t s).Good) (hp : Pieces (cont D) (base + ar * 66 + 2) i s) (ht : Tabs w) :
    Calls Tryd.prog 42 #[.pointer (some ⟨b, 0, none⟩)] w fun e w' => (∃ a c, e = .returned (.slice a 0 c)) ∧ Below w.heap.size w w' := by
  have hn := cutN_le.2 (good_size hg)
  have hin := hg.in
  have hh : hurtK D (base : Int) (ar : Int) (ofL i t s) (ofL i t s).sums.length = [] := by
    refine hurtK_none (fun k hk => ?_) _ (Nat.le_refl _)
    rw [ofL_sums] at hk
    rw [st_chunkF h (by omega), chunkC_good (hp k hk) hk]
  refine (churt_any h.sto (by have := hin.1; omega) ht (by rw [h.w0]; decide)).mono ?_
  rintro e w' ⟨v, rfl, hrow, hb⟩
  rw [hh] at hrow
  obtain ⟨a, c, rfl⟩ : ∃ a c, v = .slice a 0 c := by
    rcases hrow.2 with ⟨rfl, _⟩ | ⟨g, cap, cur, rfl, _⟩
    · exact ⟨_, _, rfl⟩
    · exact ⟨_, _, rfl⟩
  exact ⟨⟨a, c, rfl⟩, hb⟩
/-- Blocks that have just been made join those that the device leaves alone. -/
theorem StC.grow (h : StC m E w b B M base l sv ar D) (hb : Below w.heap.size w x) : StC m (fun k => E k ∨ (w.heap.size ≤ k ∧ k < x.heap.size)) x b B M base l sv ar D :=
  { h with sto := { h.sto.below hb with dev := h.sto.dev.growAllC hb, eb := .inl h.sto.eb, own := fun g hg => ⟨.inl (h.sto.own g hg).1, (h.sto.own g hg).2⟩ } }
/-- .. and a row among them. -/
theorem StC.growRow (h : StC m E w b B M base l sv ar D) {e : TypeId} {sz k : Nat} {v : Value} {xs : List Value} (hr : x.ownsRow w.heap.size e sz v k xs) (hb : Below w.heap.size w x) :
    ∃ E' : Nat → Prop, (∀ j, E j → E' j) ∧ StC m E' x b B M base l sv ar D ∧ ∀ j, v.ownBlock = some j → E' j :=
  ⟨_, fun _ h => .inl h, h.grow hb, fun j hj => .inr (World.ownsRow.lt hr j hj)⟩
theorem row_kept {w x : World} {E : Nat → Prop} {bs : Nat} {e : TypeId} {sz k : Nat} {v : Value} {xs : List Value} (h : w.ownsRow bs e sz v k xs) (hk : Kept E w x) (hE : ∀ j, v.ownBlock = some j → E j) : x.ownsRow bs e sz v k xs :=
  ownsRow_same h (fun j hj => hk j (hE j hj))
/-- Mend, the power being on. -/
theorem st_mend (k : Nat) (c : ByteArray) (h : StC m E w b B M base l sv ar D) (hg : l.Good) (hk : k < l.sums.length) (hc : c.size ≤ maxLen) (hm : m ≤ w.heap.size) (ht : ∀ x, Below m w x → Tabs x) :
    Calls Tryd.prog 46 #[.pointer (some ⟨b, 0, none⟩), .int .i64 (k : Int), .string c] w fun e w' => e = .returned (.int .i64 (if matchB l k c = true then 0 else 1)) ∧
      ∃ D', StC m E w' b B M base l sv ar D' ∧ Below m w w' ∧ Kept E w w' ∧ (∀ j, j ≠ base + ar * 66 + 2 + k → cont D' j = cont D j) ∧ (matchB l k c = true → cont D (base + ar * 66 + 2 + k) = (rc0, 2) → cont D' (base + ar * 66 + 2 + k) = (chunkR l.index (k : Int) c, 1)) := by
  have hin := hg.in
  have hlen := h.len
  have hroom := h.room
  have har := h.ar
  refine (cmend_any k c h.sto (by have := hin.1; omega) hk (by omega) hc hm ht (by rw [h.w0]; decide)).mono ?_
  rintro e w' ⟨rfl, hs, hb, hkp⟩
  have hq : (base : Int) + (ar : Int) * 66 + 2 + (k : Int) = ((base + ar * 66 + 2 + k : Nat) : Int) := by omega
  unfold mendF at hs ⊢
  by_cases hma : matchB l k c = true
  case neg =>
    have hmf : matchB l k c = false := by simpa using hma
    rw [if_pos hmf] at hs
    rw [if_pos hmf, if_neg hma]
    exact ⟨rfl, D, { h with sto := hs }, hb, hkp, fun _ _ => rfl, fun h => absurd h hma⟩
  rw [if_neg (by rw [hma]; decide)] at hs
  rw [if_neg (by rw [hma]; decide), if_pos hma]
  by_cases hf : chunkF D (base : Int) (ar : Int) l k = (c, 0)
  · rw [if_pos hf] at hs
    rw [if_pos hf]
    obtain ⟨D', e1, c1, n1, k1⟩ := flush_cont h.calm.toLive
    rw [e1] at hs
    rw [e1]
    refine ⟨rfl, D', { h with sto := hs, calm := c1, len := n1.trans h.len }, hb, hkp, fun j _ => by rw [k1], fun _ hl => ?_⟩
    rw [st_chunkF h (by omega), chunkC_lost hl] at hf
    exact absurd (congrArg Prod.snd hf) (by show ¬ (6 : Int) = 0; decide)
  · rw [if_neg hf] at hs
    rw [if_neg hf]
    have hsz : c.size ≤ 488 := by
      have := of_decide_eq_true hma
      have h2 := this.1
      omega
    obtain ⟨D', e1, c1, n1, k1⟩ := one_cont h.calm.toLive (chunkR_ok (i := l.index) (k := (k : Int)) ⟨by omega, by omega⟩ ⟨by omega, by omega⟩ hsz) (k := base + ar * 66 + 2 + k) (by omega)
    rw [hq, e1] at hs
    rw [hq, e1]
    refine ⟨rfl, D', { h with sto := hs, calm := c1, len := n1.trans h.len }, hb, hkp, fun j hj => by rw [k1, put2_other hj], fun _ _ => by rw [k1, put2_same]⟩
theorem st_mend_no (k : Int) (c : ByteArray) (h : StC m E w b B M base l sv ar D) (hk : -9223372036854775808 ≤ k ∧ k ≤ 9223372036854775807) (h0 : ¬ (0 ≤ k ∧ k < (l.sums.length : Int))) :
    Calls Tryd.prog 46 #[.pointer (some ⟨b, 0, none⟩), .int .i64 k, .string c] w fun e w' => e = .returned (.int .i64 1) ∧ w = w' := by
  obtain ⟨a, cap, rfl, _⟩ := id h.sto.sums
  exact cmend_no k c hk h.sto.st (fun hh => h0 hh.2)
theorem st_chunk (k : Nat) (h : StC m E w b B M base l sv ar D) (hg : l.Good) (hk : k < l.sums.length) (ht : Tabs w) :
    Calls Tryd.prog 43 #[.pointer (some ⟨b, 0, none⟩), .int .i64 (k : Int)] w fun e w' => e = .returned (.tuple #[.string (chunkC (cont D) (base + ar * 66 + 2) l k).1, .int .i64 (chunkC (cont D) (base + ar * 66 + 2) l k).2]) ∧ Below w.heap.size w w' := by
  have hin := hg.in
  have := cchunk_any k h.sto (by omega) hk ht (by rw [h.w0]; decide)
  rw [st_chunkF h (by omega)] at this
  exact this
end
end
section
open Go.RowKit
set_option linter.unusedVariables false
set_option maxRecDepth 100000

theorem rd_one {b : Blk} {r : Rc} (hp : b.pending = []) (h : rd b = (r, 1)) : r.Ok ∧ b.lost = false ∧ b.durable = r.bytes := by
  unfold rd at h
  cases hl : b.lost with
  | true => rw [hl] at h; simp at h
  | false =>
    rw [hl, if_neg (by decide), contents_nil hp] at h
    rcases get_cases b.durable with ⟨_, e⟩ | ⟨_, e⟩ | ⟨r', ho, hb, e⟩
    · rw [e] at h; simp at h
    · rw [e] at h; simp at h
    · rw [e] at h
      obtain rfl : r' = r := (Prod.mk.inj h).1
      exact ⟨ho, rfl, hb⟩
/-- A block that a record was written to, behind a failure: the record, something bad, or what was there. -/
theorem crash_write {b : Blk} {r : Rc} (ho : r.Ok) (hp : b.pending = []) (n : Nat) (zs : List Int) : ((b.write n r.bytes).crash zs).pending = [] ∧ ((b.write n r.bytes).crash zs).lost = false ∧
    (rd ((b.write n r.bytes).crash zs) = (r, 1) ∨ rd ((b.write n r.bytes).crash zs) = (rc0, 2) ∨ rd ((b.write n r.bytes).crash zs) = getF b.durable) := by
  have key : ∀ (x : ByteArray) (sp : Bool), rd ⟨x, sp, false, []⟩ = getF x := fun x sp => by
    unfold rd
    rw [if_neg (show ¬ (false = true) by decide), contents_nil rfl]
  have hpe : (b.write n r.bytes).pending = [⟨n, r.bytes⟩] := by show b.pending ++ _ = _; rw [hp]; rfl
  unfold Blk.crash
  rw [hpe]
  show ((([⟨n, r.bytes⟩] : List Wr).reverse.findSome? (oneHit zs (b.write n r.bytes))).getD _).pending = [] ∧ _
  have hf : (([⟨n, r.bytes⟩] : List Wr).reverse.findSome? (oneHit zs (b.write n r.bytes))) = oneHit zs (b.write n r.bytes) ⟨n, r.bytes⟩ := by
    show ([⟨n, r.bytes⟩] : List Wr).findSome? _ = _
    simp only [List.findSome?_cons, List.findSome?_nil]
    cases oneHit zs (b.write n r.bytes) ⟨n, r.bytes⟩ <;> rfl
  rw [hf]
  unfold oneHit
  split
  · exact ⟨rfl, rfl, .inl ((key _ _).trans (get_put ho))⟩
  · split
    · exact ⟨rfl, rfl, .inr (.inl ((key _ _).trans (get_half ho)))⟩
    · exact ⟨rfl, rfl, .inr (.inr (key _ _))⟩
/-- One block written, with a record that it may have; what is answered. -/
theorem swrite_two {D : Dv} {r : Rc} (ho : r.Ok) {k : Nat} {b : Blk} (hb : D.bs[k]? = some b) : ((D.swrite (k : Int) r).1 = 0 ∧ (D.swrite (k : Int) r).2.bs = D.bs.set k (b.write D.writes r.bytes)) ∨ ((D.swrite (k : Int) r).1 = 5 ∧ (D.swrite (k : Int) r).2.bs = D.bs) := by
  cases hu : D.up with
  | true => rw [swrite_of k ho hu hb]; exact .inl ⟨rfl, rfl⟩
  | false =>
    right
    unfold Dv.swrite
    rw [put_ok ho, if_pos rfl]
    unfold Dv.write
    rw [hu, if_neg (by decide)]
    exact ⟨rfl, Dv.op_bs D⟩
theorem flush_two (D : Dv) : (D.flush.1 = 0 ∧ D.flush.2.bs = D.bs.map Blk.flush) ∨ (D.flush.1 = 5 ∧ D.flush.2.bs = D.bs) := by
  unfold Dv.flush
  split
  · exact .inl ⟨rfl, by simp only [Dv.flushed, Dv.op_bs]⟩
  · exact .inr ⟨rfl, Dv.op_bs D⟩
/-- All durable, nothing lost. -/
structure Neat (bs : List Blk) : Prop where
  pend : ∀ b ∈ bs, b.pending = []
  kept : ∀ b ∈ bs, b.lost = false
def contB (bs : List Blk) (k : Nat) : Rc × Int := rd (bs[k]?.getD blk0)
theorem cont_B (D : Dv) : cont D = contB D.bs := rfl
theorem contB_set {bs : List Blk} {k : Nat} {b : Blk} (hk : k < bs.length) : contB (bs.set k b) = put2 (contB bs) k (rd b) := cont_set (n := 0) (f := false) (t := 0) (d := false) hk
theorem contB_flush (bs : List Blk) : contB (bs.map Blk.flush) = contB bs := by
  funext j
  unfold contB
  simp only [List.getElem?_map]
  cases bs[j]? with
  | none => rfl
  | some b => exact rd_flush b
theorem flush_lost (b : Blk) : b.flush.lost = b.lost := by unfold Blk.flush; split <;> rfl
theorem neat_flush {bs : List Blk} (h : ∀ b ∈ bs, b.lost = false) : Neat (bs.map Blk.flush) := by
  refine ⟨fun b hb => ?_, fun b hb => ?_⟩
  · obtain ⟨d, _, rfl⟩ := List.mem_map.1 hb
    exact flush_pending d
  · obtain ⟨d, hd, rfl⟩ := List.mem_map.1 hb
    rw [flush_lost]; exact h d hd
theorem crash_bs (D : Dv) (zs : List Int) : (D.crash zs).bs = D.bs.map (Blk.crash zs) := rfl
/-- What a failure makes of a block that is durable. -/
theorem crash_same {bs bs0 : List Blk} {j : Nat} (h : Neat bs0) (he : bs[j]? = bs0[j]?) (zs : List Int) : (bs.map (Blk.crash zs))[j]? = bs0[j]? := by
  rw [List.getElem?_map, he]
  cases hb : bs0[j]? with
  | none => rfl
  | some b => rw [Option.map_some, blk_crash_calm (h.pend b (List.mem_of_getElem? hb))]
theorem neat_of {bs : List Blk} (h : ∀ (j : Nat) (b : Blk), bs[j]? = some b → b.pending = [] ∧ b.lost = false) : Neat bs :=
  ⟨fun b hb => by obtain ⟨j, hj⟩ := List.getElem?_of_mem hb; exact (h j b hj).1, fun b hb => by obtain ⟨j, hj⟩ := List.getElem?_of_mem hb; exact (h j b hj).2⟩
theorem crash_any_neat {b : Blk} (zs : List Int) (hl : b.lost = false) : (b.crash zs).pending = [] ∧ (b.crash zs).lost = false := by
  unfold Blk.crash
  cases hf : b.pending.reverse.findSome? (oneHit zs b) with
  | none => exact ⟨rfl, hl⟩
  | some b' =>
    obtain ⟨p, _, hh⟩ := List.exists_of_findSome?_eq_some hf
    unfold oneHit at hh
    show b'.pending = [] ∧ b'.lost = false
    split at hh
    · obtain rfl := Option.some.inj hh; exact ⟨rfl, hl⟩
    · split at hh
      · obtain rfl := Option.some.inj hh; exact ⟨rfl, hl⟩
      · cases hh
theorem neat_crash {bs : List Blk} (h : ∀ b ∈ bs, b.lost = false) (zs : List Int) : Neat (bs.map (Blk.crash zs)) :=
  ⟨fun b hb => by obtain ⟨d, hd, rfl⟩ := List.mem_map.1 hb; exact (crash_any_neat zs (h d hd)).1, fun b hb => by obtain ⟨d, hd, rfl⟩ := List.mem_map.1 hb; exact (crash_any_neat zs (h d hd)).2⟩
theorem lost_set {bs : List Blk} (h : ∀ b ∈ bs, b.lost = false) (k n : Nat) (d : Blk) (s : ByteArray) : ∀ b ∈ bs.set k (d.write n s), b.lost = false := fun b hb => by
  rcases List.mem_or_eq_of_mem_set hb with hb | rfl
  · exact h b hb
  · rfl
/-- A record written and flushed: done, or stopped on the way; behind a failure. -/
theorem one_power {D : Dv} {r : Rc} (ho : r.Ok) {k : Nat} (hk : k < D.bs.length) (h : Neat D.bs) :
    (((D.one (k : Int) r).1 = 0 ∧ Neat (D.one (k : Int) r).2.bs ∧ contB (D.one (k : Int) r).2.bs = put2 (contB D.bs) k (r, 1)) ∨ (D.one (k : Int) r).1 = 5) ∧ (D.one (k : Int) r).2.bs.length = D.bs.length ∧ (∀ b ∈ (D.one (k : Int) r).2.bs, b.lost = false) ∧
    ∀ zs, (∀ j, j ≠ k → contB ((D.one (k : Int) r).2.bs.map (Blk.crash zs)) j = contB D.bs j) ∧ (contB ((D.one (k : Int) r).2.bs.map (Blk.crash zs)) k = (r, 1) ∨ contB ((D.one (k : Int) r).2.bs.map (Blk.crash zs)) k = (rc0, 2) ∨ contB ((D.one (k : Int) r).2.bs.map (Blk.crash zs)) k = contB D.bs k) := by
  have hb := at_lt hk
  obtain ⟨b, hbb⟩ : ∃ b, b = D.bs[k]?.getD blk0 := ⟨_, rfl⟩
  rw [← hbb] at hb
  have hm := List.mem_of_getElem? hb
  have hp := h.pend b hm
  have hl := h.kept b hm
  have hold : contB D.bs k = getF b.durable := by
    unfold contB
    rw [← hbb]
    unfold rd
    rw [if_neg (by rw [hl]; decide), contents_nil hp]
  -- what a failure makes of the blocks, once the record is written
  have hcr : ∀ (bs : List Blk) zs, bs = D.bs.set k (b.write D.writes r.bytes) → (∀ j, j ≠ k → contB (bs.map (Blk.crash zs)) j = contB D.bs j) ∧ (contB (bs.map (Blk.crash zs)) k = (r, 1) ∨ contB (bs.map (Blk.crash zs)) k = (rc0, 2) ∨ contB (bs.map (Blk.crash zs)) k = contB D.bs k) := by
    rintro bs zs rfl
    refine ⟨fun j hj => ?_, ?_⟩
    · unfold contB
      rw [crash_same h (by rw [List.getElem?_set_ne (fun e => hj e.symm)]) zs]
    · rw [hold]
      have : contB ((D.bs.set k (b.write D.writes r.bytes)).map (Blk.crash zs)) k = rd ((b.write D.writes r.bytes).crash zs) := by
        unfold contB
        rw [List.getElem?_map, List.getElem?_set_self hk]
        rfl
      rw [this]
      exact (crash_write ho hp D.writes zs).2.2
  have hno : ∀ (bs : List Blk) zs, bs = D.bs → (∀ j, j ≠ k → contB (bs.map (Blk.crash zs)) j = contB D.bs j) ∧ (contB (bs.map (Blk.crash zs)) k = (r, 1) ∨ contB (bs.map (Blk.crash zs)) k = (rc0, 2) ∨ contB (bs.map (Blk.crash zs)) k = contB D.bs k) := by
    rintro bs zs rfl
    have he : ∀ j, contB (D.bs.map (Blk.crash zs)) j = contB D.bs j := fun j => by unfold contB; rw [crash_same h rfl zs]
    exact ⟨fun j _ => he j, .inr (.inr (he k))⟩
  rcases swrite_two (D := D) ho hb with ⟨e1, e2⟩ | ⟨e1, e2⟩
  · rw [c_one_go e1]
    have hls : ∀ d ∈ (D.swrite (k : Int) r).2.bs, d.lost = false := by rw [e2]; exact lost_set h.kept _ _ _ _
    rcases flush_two (D.swrite (k : Int) r).2 with ⟨f1, f2⟩ | ⟨f1, f2⟩
    · have hc : contB (D.swrite (k : Int) r).2.flush.2.bs = put2 (contB D.bs) k (r, 1) := by
        rw [f2, contB_flush, e2, contB_set hk, rd_write, get_put ho]
      have hne : Neat (D.swrite (k : Int) r).2.flush.2.bs := by rw [f2]; exact neat_flush hls
      refine ⟨.inl ⟨f1, hne, hc⟩, by rw [f2, e2]; simp, hne.kept, fun zs => ?_⟩
      have he : ∀ j, contB ((D.swrite (k : Int) r).2.flush.2.bs.map (Blk.crash zs)) j = put2 (contB D.bs) k (r, 1) j := fun j => by
        rw [← hc]; unfold contB; rw [crash_same hne rfl zs]
      exact ⟨fun j hj => by rw [he, put2_other hj], .inl (by rw [he, put2_same])⟩
    · refine ⟨.inr f1, by rw [f2, e2]; simp, by rw [f2]; exact hls, fun zs => hcr _ zs (by rw [f2, e2])⟩
  · rw [c_one_stop (by rw [e1]; decide)]
    exact ⟨.inr e1, by rw [e2], by rw [e2]; exact h.kept, fun zs => hno _ zs e2⟩
/-- Chunks written: all, or some of them. -/
theorem wrs_power {q : Nat} {i : Int} (hi : 0 ≤ i ∧ i ≤ 281474976710655) : ∀ (cs : List ByteArray) (D : Dv) (k : Nat), (∀ b ∈ D.bs, b.lost = false) → (∀ c ∈ cs, c.size ≤ 488) → q + k + cs.length ≤ D.bs.length → D.bs.length ≤ 4096 →
    (((Dv.wrs (q : Int) i D k cs).1 = 0 ∧ contB (Dv.wrs (q : Int) i D k cs).2.bs = wrC q i (contB D.bs) k cs) ∨ (Dv.wrs (q : Int) i D k cs).1 = 5) ∧ (Dv.wrs (q : Int) i D k cs).2.bs.length = D.bs.length ∧ (∀ b ∈ (Dv.wrs (q : Int) i D k cs).2.bs, b.lost = false) ∧
    ∀ j, (j < q + k ∨ q + k + cs.length ≤ j) → (Dv.wrs (q : Int) i D k cs).2.bs[j]? = D.bs[j]?
  | [], D, k, h, _, _, _ => ⟨.inl ⟨rfl, rfl⟩, rfl, h, fun _ _ => rfl⟩
  | c :: cs, D, k, h, hc, hr, hb => by
    simp only [List.length_cons] at hr ⊢
    have ho := chunkR_ok (i := i) (k := (k : Int)) (c := c) hi ⟨by omega, by omega⟩ (hc c (by simp))
    have e : (q : Int) + (k : Int) = ((q + k : Nat) : Int) := by omega
    have hk : q + k < D.bs.length := by omega
    rcases swrite_two (D := D) ho (at_lt hk) with ⟨e1, e2⟩ | ⟨e1, e2⟩
    · rw [← e] at e1 e2
      rw [wrs_go e1]
      have hl : (D.swrite ((q : Int) + (k : Int)) (chunkR i (k : Int) c)).2.bs.length = D.bs.length := by rw [e2]; simp
      obtain ⟨h1, h2, h3, h4⟩ := wrs_power (q := q) hi cs (D.swrite ((q : Int) + (k : Int)) (chunkR i (k : Int) c)).2 (k + 1) (by rw [e2]; exact lost_set h _ _ _ _) (fun x hx => hc x (List.mem_cons_of_mem _ hx)) (by omega) (by omega)
      refine ⟨?_, h2.trans hl, h3, fun j hj => ?_⟩
      · rcases h1 with ⟨g1, g2⟩ | g1
        · refine .inl ⟨g1, ?_⟩
          rw [g2, e2, contB_set hk, rd_write, get_put ho]
          rfl
        · exact .inr g1
      · rw [h4 j (by omega), e2, List.getElem?_set_ne (by omega)]
    · rw [← e] at e1 e2
      rw [wrs_stop (by rw [e1]; decide)]
      exact ⟨.inr e1, by rw [e2], by rw [e2]; exact h, fun j _ => by rw [e2]⟩
/-- What is there behind a Put and a failure. -/
structure PutX (C C2 : Ct) (a : Nat) (i t : Int) (s : ByteArray) : Prop where
  out : ∀ j, (j < a ∨ a + 66 ≤ j) → C2 j = C j
  way : (C2 a = C a ∧ C2 (a + 1) = C (a + 1)) ∨
    (Pieces C2 (a + 2) i s ∧ ∀ n, n ≤ 1 → C2 (a + n) = (listR (ofL i t s), 1) ∨ C2 (a + n) = (rc0, 2) ∨ C2 (a + n) = C (a + n))
theorem put_power {D : Dv} {base i0 area i t : Int} {s : ByteArray} {a : Nat} (h : Neat D.bs) (hg : (ofL i t s).Good) (ha : base + nextA i0 area * 66 = (a : Int)) (hr : a + 66 ≤ D.bs.length) (hb : D.bs.length ≤ 4096) :
    (((putP D base i0 area i t s).1 = 0 ∧ Neat (putP D base i0 area i t s).2.bs ∧ contB (putP D base i0 area i t s).2.bs = putC (contB D.bs) a i t s) ∨ (putP D base i0 area i t s).1 = 5) ∧ (putP D base i0 area i t s).2.bs.length = D.bs.length ∧ (∀ b ∈ (putP D base i0 area i t s).2.bs, b.lost = false) ∧
    ∀ zs, PutX (contB D.bs) (contB ((putP D base i0 area i t s).2.bs.map (Blk.crash zs))) a i t s := by
  have hsz := good_size hg
  have hn := cutN_le.2 hsz
  have hin := hg.in
  have hi : 0 ≤ i ∧ i ≤ 281474976710655 := by
    have h1 : 1 ≤ i ∧ i ≤ 1099511627776 := ⟨hin.1, hin.2.1⟩
    omega
  have e0 : wcB base (nextA i0 area) 0 0 = (a : Int) := by unfold wcB; rw [if_pos rfl]; omega
  have e1 : wcB base (nextA i0 area) 0 1 = ((a + 1 : Nat) : Int) := by unfold wcB; rw [if_neg (by decide)]; omega
  have e2 : base + nextA i0 area * 66 + 2 = ((a + 2 : Nat) : Int) := by omega
  have hlen := cutS_length s
  have hro := listR_ok hg
  unfold putP
  rw [e0, e1, e2]
  obtain ⟨w1, w2, w3, w4⟩ := wrs_power (q := a + 2) hi (cutS s) D 0 h.kept (cutS_size s) (by omega) hb
  generalize hW : Dv.wrs ((a + 2 : Nat) : Int) i D 0 (cutS s) = W at w1 w2 w3 w4
  have hpc : ∀ C2 : Ct, (∀ j, j ≠ a → j ≠ a + 1 → C2 j = wrC (a + 2) i (contB D.bs) 0 (cutS s) j) → Pieces C2 (a + 2) i s := fun C2 h2 k hk => by
    rw [h2 _ (by omega) (by omega)]
    have := wrC_at (a + 2) i (cutS s) (contB D.bs) 0 k (by rw [hlen]; exact hk)
    rw [Nat.add_zero, Nat.zero_add, cutS_at s hk] at this
    exact this
  have hwo : ∀ j, (j < a ∨ a + 66 ≤ j) → wrC (a + 2) i (contB D.bs) 0 (cutS s) j = contB D.bs j := fun j hj => wrC_out _ _ _ _ _ _ (by omega)
  have hw2 : ∀ j, (j = a ∨ j = a + 1) → wrC (a + 2) i (contB D.bs) 0 (cutS s) j = contB D.bs j := fun j hj => wrC_out _ _ _ _ _ _ (by omega)
  -- stopped among the chunks
  have hstop : ∀ bs : List Blk, (∀ j, (j < a + 2 + 0 ∨ a + 2 + 0 + (cutS s).length ≤ j) → bs[j]? = D.bs[j]?) → ∀ zs, PutX (contB D.bs) (contB (bs.map (Blk.crash zs))) a i t s := by
    intro bs hbs zs
    have he : ∀ j, (j < a + 2 ∨ a + 66 ≤ j) → contB (bs.map (Blk.crash zs)) j = contB D.bs j := fun j hj => by
      unfold contB
      rw [crash_same h (hbs j (by omega)) zs]
    exact ⟨fun j hj => he j (by omega), .inl ⟨he a (by omega), he (a + 1) (by omega)⟩⟩
  rcases w1 with ⟨w0, wc⟩ | w5
  case inr =>
    rw [put7_stop (by rw [hW, w5]; decide), hW]
    exact ⟨.inr w5, w2, w3, hstop _ w4⟩
  rcases flush_two W.2 with ⟨f1, f2⟩ | ⟨f1, f2⟩
  case inr =>
    rw [put7_flush (by rw [hW]; exact w0) (by rw [hW, f1]; decide), hW]
    exact ⟨.inr f1, by rw [f2]; exact w2, by rw [f2]; exact w3, hstop _ (by rw [f2]; exact w4)⟩
  rw [put7_go (by rw [hW]; exact w0) (by rw [hW]; exact f1), hW]
  have hN1 : Neat W.2.flush.2.bs := by rw [f2]; exact neat_flush w3
  have hC1 : contB W.2.flush.2.bs = wrC (a + 2) i (contB D.bs) 0 (cutS s) := by rw [f2, contB_flush, wc]
  have hL1 : W.2.flush.2.bs.length = D.bs.length := by rw [f2]; simpa using w2
  generalize W.2.flush.2 = D1 at hN1 hC1 hL1
  obtain ⟨o1, o2, o3, o4⟩ := one_power (D := D1) hro (k := a) (by omega) hN1
  rcases o1 with ⟨o0, on, oc⟩ | o5
  case inr =>
    rw [pair_stop (by rw [o5]; decide)]
    refine ⟨.inr o5, by omega, o3, fun zs => ?_⟩
    obtain ⟨p1, p2⟩ := o4 zs
    rw [hC1] at p1 p2
    refine ⟨fun j hj => by rw [p1 j (by omega), hwo j hj], .inr ⟨hpc _ (fun j h1 _ => p1 j h1), fun n hn => ?_⟩⟩
    rcases (show n = 0 ∨ n = 1 by omega) with rfl | rfl
    · rw [hw2 a (.inl rfl)] at p2; exact p2
    · exact .inr (.inr (by rw [p1 (a + 1) (by omega), hw2 (a + 1) (.inr rfl)]))
  rw [pair_go o0]
  obtain ⟨q1, q2, q3, q4⟩ := one_power (D := (D1.one (a : Int) (listR (ofL i t s))).2) hro (k := a + 1) (by omega) on
  have hcc : ∀ zs, PutX (contB D.bs) (contB (((D1.one (a : Int) (listR (ofL i t s))).2.one ((a + 1 : Nat) : Int) (listR (ofL i t s))).2.bs.map (Blk.crash zs))) a i t s := fun zs => by
    obtain ⟨p1, p2⟩ := q4 zs
    rw [oc, hC1] at p1 p2
    refine ⟨fun j hj => by rw [p1 j (by omega), put2_other (by omega), hwo j hj], .inr ⟨hpc _ (fun j h1 h2 => by rw [p1 j h2, put2_other h1]), fun n hn => ?_⟩⟩
    rcases (show n = 0 ∨ n = 1 by omega) with rfl | rfl
    · exact .inl ((p1 a (by omega)).trans (put2_same _ _ _))
    · rw [put2_other (by omega), hw2 (a + 1) (.inr rfl)] at p2; exact p2
  refine ⟨?_, by omega, q3, hcc⟩
  refine q1.imp (fun ⟨x, y, z⟩ => ⟨x, y, ?_⟩) id
  rw [z, oc, hC1]
  rfl
/-- Calm, and nothing lost. -/
theorem calm_neat {D : Dv} (h : Calm D) (hl : ∀ b ∈ D.bs, b.lost = false) : Neat D.bs := ⟨h.pend, hl⟩
theorem calm_crash {D : Dv} (h : ∀ b ∈ D.bs, b.lost = false) (zs : List Int) : Calm (D.crash zs) ∧ ∀ b ∈ (D.crash zs).bs, b.lost = false := by
  have := neat_crash h zs
  exact ⟨⟨⟨rfl, rfl⟩, this.pend, rfl⟩, this.kept⟩
/-- A block that is lost keeps its bytes. -/
theorem lose_block {D : Dv} {q : Nat} {r : Rc} (h : Calm D) (hq : q < D.bs.length) (hc : cont D q = (r, 1)) : ∃ b, (D.onB (q : Int) Blk.lose).bs[q]? = some b ∧ b.durable = r.bytes := by
  have hb := at_lt hq
  rw [onB_at rfl hb]
  exact ⟨_, List.getElem?_set_self hq, (rd_one (h.pend _ (List.mem_of_getElem? hb)) hc).2.2⟩
/-- A lost block with its record mended, the power failing at some time, or not. -/
theorem mend_power {D : Dv} {r : Rc} (ho : r.Ok) {k : Nat} (hk : k < D.bs.length) (hp : ∀ b ∈ D.bs, b.pending = []) {b : Blk} (hb : D.bs[k]? = some b) (hd : b.durable = r.bytes) :
    ((D.one (k : Int) r).1 = 0 ∨ (D.one (k : Int) r).1 = 5) ∧ (D.one (k : Int) r).2.bs.length = D.bs.length ∧ ∀ zs, (∀ x ∈ (D.one (k : Int) r).2.bs.map (Blk.crash zs), x.pending = []) ∧ (∀ j, j ≠ k → contB ((D.one (k : Int) r).2.bs.map (Blk.crash zs)) j = contB D.bs j) ∧
      (contB ((D.one (k : Int) r).2.bs.map (Blk.crash zs)) k = (r, 1) ∨ (contB ((D.one (k : Int) r).2.bs.map (Blk.crash zs)) k = (rc0, 2) ∧ (D.one (k : Int) r).1 ≠ 0)) ∨ contB D.bs k ≠ (rc0, 2) := by
  by_cases hlost : contB D.bs k = (rc0, 2)
  case neg => exact ⟨by
                      rcases swrite_two (D := D) ho hb with ⟨e1, e2⟩ | ⟨e1, e2⟩
                      · rw [c_one_go e1]
                        rcases flush_two (D.swrite (k : Int) r).2 with ⟨f1, _⟩ | ⟨f1, _⟩
                        · exact .inl f1
                        · exact .inr f1
                      · rw [c_one_stop (by rw [e1]; decide)]; exact .inr e1, by
                      rcases swrite_two (D := D) ho hb with ⟨e1, e2⟩ | ⟨e1, e2⟩
                      · rw [c_one_go e1]
                        rcases flush_two (D.swrite (k : Int) r).2 with ⟨_, f1⟩ | ⟨_, f1⟩
                        · rw [f1, e2]; simp
                        · rw [f1, e2]; simp
                      · rw [c_one_stop (by rw [e1]; decide), e2], fun zs => .inr hlost⟩
  have hpb := hp b (List.mem_of_getElem? hb)
  have hsame : ∀ (bs : List Blk) zs, (∀ j, j ≠ k → bs[j]? = D.bs[j]?) → ∀ j, j ≠ k → (bs.map (Blk.crash zs))[j]? = D.bs[j]? := fun bs zs hbs j hj => by
    rw [List.getElem?_map, hbs j hj]
    cases hx : D.bs[j]? with
    | none => rfl
    | some x => rw [Option.map_some, blk_crash_calm (hp x (List.mem_of_getElem? hx))]
  -- the blocks behind a failure, from the one that was written
  have fin : ∀ (bs : List Blk) zs (x : Blk), (∀ j, j ≠ k → bs[j]? = D.bs[j]?) → bs[k]? = some x → (x.crash zs).pending = [] →
      (∀ y ∈ bs.map (Blk.crash zs), y.pending = []) ∧ (∀ j, j ≠ k → contB (bs.map (Blk.crash zs)) j = contB D.bs j) ∧ contB (bs.map (Blk.crash zs)) k = rd (x.crash zs) := fun bs zs x hbs hx hxp => by
    refine ⟨fun y hy => ?_, fun j hj => ?_, ?_⟩
    · obtain ⟨j, hj⟩ := List.getElem?_of_mem hy
      by_cases e : j = k
      · subst e
        rw [List.getElem?_map, hx, Option.map_some] at hj
        rw [← Option.some.inj hj]; exact hxp
      · rw [hsame bs zs hbs j e] at hj
        exact hp y (List.mem_of_getElem? hj)
    · unfold contB; rw [hsame bs zs hbs j hj]
    · unfold contB; rw [List.getElem?_map, hx]; rfl
  have hgd : getF b.durable = (r, 1) := by rw [hd]; exact get_put ho
  rcases swrite_two (D := D) ho hb with ⟨e1, e2⟩ | ⟨e1, e2⟩
  · have hx : ∀ j, j ≠ k → (D.swrite (k : Int) r).2.bs[j]? = D.bs[j]? := fun j hj => by rw [e2, List.getElem?_set_ne (fun e => hj e.symm)]
    have hxk : (D.swrite (k : Int) r).2.bs[k]? = some (b.write D.writes r.bytes) := by rw [e2, List.getElem?_set_self hk]
    rw [c_one_go e1]
    rcases flush_two (D.swrite (k : Int) r).2 with ⟨f1, f2⟩ | ⟨f1, f2⟩
    · refine ⟨.inl f1, by rw [f2, e2]; simp, fun zs => .inl ?_⟩
      rw [f2]
      have hfb : (b.write D.writes r.bytes).flush = ⟨r.bytes, false, false, []⟩ := write_flush b D.writes r.bytes
      obtain ⟨g1, g2, g3⟩ := fin ((D.swrite (k : Int) r).2.bs.map Blk.flush) zs ((b.write D.writes r.bytes).flush) (fun j hj => by
        rw [List.getElem?_map, hx j hj]
        cases hy : D.bs[j]? with
        | none => rfl
        | some y =>
          rw [Option.map_some]
          unfold Blk.flush
          rw [hp y (List.mem_of_getElem? hy)]
          rfl) (by rw [List.getElem?_map, hxk]; rfl) (by rw [blk_crash_calm (flush_pending _)]; exact flush_pending _)
      refine ⟨g1, g2, .inl ?_⟩
      rw [g3, hfb, blk_crash_calm rfl]
      unfold rd
      rw [if_neg (show ¬ (false = true) by decide), contents_nil rfl]
      exact get_put ho
    · refine ⟨.inr f1, by rw [f2, e2]; simp, fun zs => .inl ?_⟩
      obtain ⟨c1, c2, c3⟩ := crash_write ho hpb D.writes zs
      obtain ⟨g1, g2, g3⟩ := fin (D.swrite (k : Int) r).2.flush.2.bs zs (b.write D.writes r.bytes) (fun j hj => by rw [f2]; exact hx j hj) (by rw [f2]; exact hxk) c1
      refine ⟨g1, g2, ?_⟩
      rw [g3]
      rcases c3 with c | c | c
      · exact .inl c
      · exact .inr ⟨c, by rw [f1]; decide⟩
      · exact .inl (c.trans hgd)
  · rw [c_one_stop (by rw [e1]; decide)]
    refine ⟨.inr e1, by rw [e2], fun zs => .inl ?_⟩
    obtain ⟨g1, g2, g3⟩ := fin (D.swrite (k : Int) r).2.bs zs b (fun j _ => by rw [e2]) (by rw [e2]; exact hb) (by rw [blk_crash_calm hpb]; exact hpb)
    refine ⟨g1, g2, .inr ⟨?_, by rw [e1]; decide⟩⟩
    rw [g3, blk_crash_calm hpb, ← hlost]
    unfold contB
    rw [hb]
    rfl
/-- One fate, in a slice of its own. -/
theorem fts_one (w : World) (z : Int) : Fts (w.alloc (.cells #[.int .i64 z] 104)) (.slice (some ⟨w.heap.size, 0, none⟩) 1 1) [z] := Fts.one w z _
end
end Go.Proofs.YtiknfifiglooeaaDoor
