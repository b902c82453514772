/- NetMany: as many messages as there may be in transit, and no more, in their order. No condition on the input. -/
import Derived.Test.YtfijidaohlnphaaNList
import Derived.Test.YtfijidaohlnphaaRows
import Derived.ProofKit
import Derived.OpenShut
import Derived.ShutString
import Derived.ChangeOld
import Derived.Deep.DeepHandedRow
import Derived.Lib.LaidTab
import Derived.Stop.LaidErr
import Derived.Lay
namespace Go.Proofs.Ytfijidaohlnphaa.netMany
open Go.ChangeShapes Go.WideShapes Go.ChangeAt Go.RowKit
open Go.ChangeMaps (open_string shut_string)
set_option linter.unusedVariables false
set_option maxRecDepth 100000
/-- What Send has put in transit, behind i that were taken. -/
theorem many_sent {X : List Fl} {c : Nat} (hS : Sent X ((ixs c).map miI) (0 + min (max 0 0) 1048576) 0) (hc : X.length ≤ c) : ∀ j (hj : j < X.length), X[j].due = 0 ∧ X[j].m.ix = (j : Int) := by
  intro j hj
  have h1 := hS j hj
  rw [show X.getD j Fl.zero = X[j] by simp [List.getD_eq_getElem?_getD, hj], show ((ixs c).map miI).getD j Mi.zero = miI j by
    rw [List.getD_eq_getElem?_getD, List.getElem?_map, ixs_at (by omega)]; rfl] at h1
  exact ⟨h1.due, by rw [h1.m]; rfl⟩
theorem drop_cons {X : List Fl} {i : Nat} (hi : i < X.length) : X.drop i = [] ++ X[i] :: X.drop (i + 1) := by simp
set_option maxHeartbeats 16000000 in
theorem walk (a0 : Int) (W : World) (w0 : (Lit.int .i64 a0).wf = true) : Calls Try.prog 4 #[.int .i64 a0] W fun e w' => e = .returned (.bool true) ∧ Below W.heap.size W w' := by
  have HH := Lib.hid (head_any W)
  obtain ⟨i1, hi1, hz1, hz2, hz3⟩ := info_parts info_ms
  obtain ⟨m, hm32, hm⟩ : ∃ m : Nat, m < 32 ∧ bits .and .i64 a0 31 = (m : Int) := ⟨(a0 % 32).toNat, by omega, by rw [i64_and31]; omega⟩
  obtain ⟨c, hc, hc1, hc2⟩ : ∃ c : Nat, wrap64 (1990 + (m : Int)) = (c : Int) ∧ 1990 ≤ c ∧ c ≤ 2021 := ⟨1990 + m, by rw [IntWalk.wrap64_in _ (by omega)]; omega, by omega, by omega⟩
  obtain ⟨k, hk, hk1⟩ : ∃ k : Nat, k = min c 2000 ∧ k ≤ 2000 := ⟨_, rfl, by omega⟩
  have HC := Lib.hid (And.intro hc1 hc2)
  have HK := Lib.hid hk
  clear hm32 hk hc1 hc2 hk1
  go_enter Try.func4, Try.ntmps4
  go_wp2_with fail
  refine HH.out.mono ?_
  rintro e w1 ⟨rfl, b1⟩
  have N1 := NetX.new (base := w1.heap.size) (heap_alloc_new w1 (.cells #[.int .i64 0, .int .i64 0, .slice none 0 0] 28)) (Nat.le_refl _)
  have bA := ((Below.refl w1.heap.size w1).alloc (Nat.le_refl _) (.cells #[.int .i64 0, .int .i64 0, .slice none 0 0] 28)).alloc (by simp) (.cells #[] 41)
  have N2 := N1.below ((Below.refl _ (w1.alloc (.cells #[.int .i64 0, .int .i64 0, .slice none 0 0] 28))).alloc (Nat.le_refl _) (.cells #[] 41))
  have O2 : MRowI ((w1.alloc (.cells #[.int .i64 0, .int .i64 0, .slice none 0 0] 28)).alloc (.cells #[] 41)) w1.heap.size (.slice (some ⟨w1.heap.size + 1, 0, none⟩) 0 0) 0 := by
    have := World.ownsRow_made (base := w1.heap.size) (e := 41) (size := 17) (w1.alloc (.cells #[.int .i64 0, .int .i64 0, .slice none 0 0] 28)) #[] 0 (by simp) (Nat.zero_le _) rfl
    rwa [show (w1.alloc (.cells #[.int .i64 0, .int .i64 0, .slice none 0 0] 28)).heap.size = w1.heap.size + 1 by simp] at this
  have HN2 := Lib.hid N2
  have HO2 := Lib.hid O2
  have HB2 := Lib.hid (b1.trans (bA.mono b1.size))
  have HS1 := Lib.hid b1.size
  clear N1 bA N2 O2 b1 HH
  go_wp2_with fail
  obtain ⟨nb, hnb⟩ : ∃ nb, nb = w1.heap.size := ⟨_, rfl⟩
  rw [← hnb] at HN2 HO2 HS1 ⊢
  have HNB := Lib.hid hnb
  clear hnb
  go_loopw [4, 5] (fun lv iv wr => ∃ i : Nat, iv = .int .i64 i ∧ i ≤ c ∧ Hid (MRowI wr nb lv i) ∧ Hid (NetX wr nb nb 0 0 []) ∧ Hid (Below W.heap.size W wr)) (fun _ iv _ => c - (intOf iv).toNat)
  case atStart => exact ⟨0, rfl, Nat.zero_le _, HO2, HN2, HB2⟩
  case round =>
    obtain ⟨i, rfl, hin, HO, HN, HB⟩ := hrel
    clear HO2 HN2 HB2
    by_cases hlt : i < c
    · have hlt2 : decide ((i : Int) < (c : Int)) = true := by simp; omega
      have bM := (Below.refl wr.heap.size wr).alloc (Nat.le_refl _) (.cells (mgA (.slice none 0 0) (.slice none 0 0) (mgI i)) 41)
      obtain ⟨W3, hW3, N3, M3, b3⟩ := one_new HN.out i
      have O3 : MRowI W3 nb u4 i := by
        refine ⟨HO.out.1, HO.out.2.imp id ?_⟩
        rintro ⟨g, cc, cur, h1, h2, h3, h4⟩
        exact ⟨g, cc, cur, h1, h2, (b3.block g (lt_of_block h3)).trans h3, h4⟩
      have hnew : ∀ j u, (mgOne i)[j]? = some u → W3.cell? ((⟨wr.heap.size, 0, none⟩ : Addr).add j) = some u := by
        intro j u hu
        have := M3
        unfold MgB mgA mgI at this
        rw [show (⟨wr.heap.size, 0, none⟩ : Addr).add j = ⟨wr.heap.size, j, none⟩ by rw [Addr.add_lit, Nat.zero_add]]
        simp only [World.cell?, this]
        simpa [mgOne] using hu
      obtain ⟨v8, w8, hrun, hown, hgr, hiff, hat⟩ := run_append_own_at (P := Try.prog) (w := W3) nb 48 48 41 i1 _ 17 176 und_mss hi1 hz1 hz2 hz3 rfl (by decide) u4 i (cellsK mgOne (ixs i)) O3 ⟨wr.heap.size, 0, none⟩ 1 1 (mgOne i) rfl hnew (mgOne_one _) (by have := HC.out; unfold maxLen; omega) (by have := HC.out; omega) (by have := N3.nb_lt; omega)
      have hown' : MRowI w8 nb v8 (i + 1) := by
        unfold MRowI
        rw [ixs_succ, cellsK_append, show cellsK mgOne [(i : Int)] = mgOne i by simp [cellsK]]
        exact hown
      have HO8 := Lib.hid hown'
      have HN8 := Lib.hid (N3.other hgr (fun q hq => by obtain ⟨cs, hcs⟩ := O3.block q hq; exact ⟨cs, _, _, hcs, by decide, by decide, by decide⟩))
      have HB8 : Hid (Below W.heap.size W w8) := Lib.hid ((HB.out.trans (b3.mono HB.out.size)).grown hgr (Nat.le_trans HB.out.size b3.size) (fun q hq => by
        rcases O3.2 with ⟨rfl, _⟩ | ⟨g, cc, cur, rfl, h2, _⟩
        · simp [Value.ownBlock] at hq
        · simp [Value.ownBlock] at hq; have := HS1.out; omega))
      have HRUN := Lib.hid hrun
      unfold mgA mgI at hW3
      simp only at hW3
      have HW3 := Lib.hid hW3
      have e7 : wrap64 ((i : Int) + 1) = (i : Int) + 1 := IntWalk.wrap64_in _ (by have := HC.out; omega)
      clear bM N3 M3 b3 O3 hnew hrun hown hgr hiff hat hown' hW3
      go_wp2_with (at_builtin; rw [← HW3.out]; refine Lib.wpList_append_run _ rfl _ _ _ _ rfl _ _ rfl rfl _ _ HRUN.out ?_; go_frame)
      go_roundw
      case rel => exact ⟨i + 1, by rw [e7]; push_cast; rfl, hlt, HO8, HN8, HB8⟩
      case measure =>
        show c - (intOf (.int .i64 (wrap64 ((i : Int) + 1)))).toNat < c - (intOf (.int .i64 (i : Int))).toNat
        rw [e7]
        simp [intOf]; omega
    · have hlt2 : decide ((i : Int) < (c : Int)) = false := by simp; omega
      obtain rfl : c = i := by omega
      have HSD := Lib.hid (HN.out.send 0 (HO.out.msr (by have := HC.out; omega)) (fun b hb => .inr (by obtain ⟨cs, hcs⟩ := HO.out.block b hb; exact ⟨cs, _, _, hcs, by decide, by decide⟩)) (by decide) (by have := HC.out; simp only [List.length_map, ixs_len]; omega))
      clear hlt hlt2 hin HN HO
      go_wp2_with fail
      refine HSD.out.mono ?_
      rintro e w2 ⟨rfl, X, hX, hS, N2, b2, k2⟩
      have hXk : X.length = k := by rw [hX, HK.out]; simp [ixs_len]
      have HXK := Lib.hid hXk
      have HXS := Lib.hid (many_sent hS (by rw [hX]; simp [ixs_len]; omega))
      have HN2 := Lib.hid N2
      have HB2 := Lib.hid (HB.out.trans (b2.mono HS1.out))
      have hln := N2.nlen
      rw [List.nil_append, hXk] at hln
      have HLN := Lib.hid hln
      clear HSD HB hX hS N2 b2 k2 hXk hln
      by_cases hcase : c ≤ 2000
      · have hck : c = k := by have := HK.out; omega
        subst hck
        have q1 : (c : Int) ≤ 2000 := by omega
        have q2 : ¬ (2000 : Int) < (c : Int) := by omega
        have HQ := Lib.hid hcase
        clear hcase
        go_wp2_with fail
        refine HLN.out.mono ?_
        rintro e w3 ⟨rfl, rfl⟩
        clear HLN
        go_wp2_with fail
        go_loopw [6] (fun iv wr => ∃ i : Nat, iv = .int .i64 i ∧ i ≤ c ∧ Hid (NetX wr nb nb 0 (0 + X.length) (X.drop i)) ∧ Hid (Below W.heap.size W wr)) (fun iv _ => c - (intOf iv).toNat)
        case atStart => exact ⟨0, rfl, Nat.zero_le _, HN2, HB2⟩
        case round =>
          obtain ⟨i, rfl, hin, HN, HB⟩ := hrel
          clear HN2 HB2
          by_cases hlt : i < c
          · have hlt2 : decide ((i : Int) < (c : Int)) = true := by simp; omega
            have hiX : i < X.length := by have := HXK.out; omega
            obtain ⟨f, hf⟩ : ∃ f, f = X[i] := ⟨_, rfl⟩
            have hfx := HXS.out i hiX
            rw [← hf] at hfx
            have hn := HN.out
            rw [drop_cons hiX, ← hf] at hn
            have HNX := Lib.hid (NetX.next hn (by rw [hfx.1]; decide) (fun g hg => by cases hg) (fun g hg => by
              obtain ⟨q, hq, rfl⟩ := List.getElem_of_mem hg
              rw [List.getElem_drop, hfx.1, (HXS.out _ (by rw [List.length_drop] at hq; omega)).1]; decide))
            have HIX := Lib.hid hfx.2
            clear hf hfx hn HN hiX
            go_wp2_with fail
            refine HNX.out.mono ?_
            rintro e w4 ⟨rfl, N4, b4, k4⟩
            obtain ⟨W5, hst5, N5, M5, b5, s5⟩ := got_new N4 f.un f.uc f.vn f.vc f.ua f.va f.m
            have HB4 := Lib.hid (HB.out.trans (b4.mono HS1.out))
            have HB5 := Lib.hid (HB4.out.trans (b5.mono HB4.out.size))
            have HN5 := Lib.hid N5
            have c4 := M5.cells.1.2.2.2.2.1
            rw [HIX.out] at c4
            unfold mgV at hst5
            have HST := Lib.hid hst5
            have e7 : wrap64 ((i : Int) + 1) = (i : Int) + 1 := IntWalk.wrap64_in _ (by have := HC.out; omega)
            clear HNX HB N4 b4 k4 hst5 N5 M5 b5 s5
            unfold mgV Fl.u Fl.v
            go_wp2_with (first | (refine wpList_store_run HST.out rfl rfl rfl rfl ?_))
            go_roundw
            case rel => exact ⟨i + 1, by push_cast; rfl, hlt, HN5, HB5⟩
            case measure => simp [intOf]; omega
          · have hlt2 : decide ((i : Int) < (c : Int)) = false := by simp; omega
            have hik : i = c := by omega
            have hn := HN.out
            rw [List.drop_of_length_le (by have := HXK.out; omega)] at hn
            have HNX := Lib.hid (hn.late (fun g hg => by cases hg))
            clear hn HN hik
            go_wp2_with fail
            refine HNX.out.mono ?_
            rintro e w4 ⟨rfl, N4, b4, k4⟩
            obtain ⟨W5, hst5, N5, M5, b5, s5⟩ := got_new N4 0 0 0 0 none none Mg.zero
            have HB4 := Lib.hid (HB.out.trans (b4.mono HS1.out))
            have HB5 := Lib.hid (HB4.out.trans (b5.mono HB4.out.size))
            unfold mgV at hst5
            have HST := Lib.hid hst5
            clear HNX HB N4 b4 k4 hst5 N5 M5 b5 s5
            unfold mgV
            go_wp2_with (first | (refine wpList_store_run HST.out rfl rfl rfl rfl ?_))
            go_ret
            exact ⟨rfl, HB5.out⟩
      · have hck : k = 2000 := by have := HK.out; omega
        subst hck
        have q1 : ¬ (c : Int) ≤ 2000 := by omega
        have q2 : (2000 : Int) < (c : Int) := by omega
        have HQ := Lib.hid hcase
        clear hcase
        go_wp2_with fail
        refine HLN.out.mono ?_
        rintro e w3 ⟨rfl, rfl⟩
        clear HLN
        go_wp2_with fail
        go_loopw [6] (fun iv wr => ∃ i : Nat, iv = .int .i64 i ∧ i ≤ 2000 ∧ Hid (NetX wr nb nb 0 (0 + X.length) (X.drop i)) ∧ Hid (Below W.heap.size W wr)) (fun iv _ => 2000 - (intOf iv).toNat)
        case atStart => exact ⟨0, rfl, Nat.zero_le _, HN2, HB2⟩
        case round =>
          obtain ⟨i, rfl, hin, HN, HB⟩ := hrel
          clear HN2 HB2
          by_cases hlt : i < 2000
          · have hlt2 : decide ((i : Int) < (2000 : Int)) = true := by simp; omega
            have hiX : i < X.length := by have := HXK.out; omega
            obtain ⟨f, hf⟩ : ∃ f, f = X[i] := ⟨_, rfl⟩
            have hfx := HXS.out i hiX
            rw [← hf] at hfx
            have hn := HN.out
            rw [drop_cons hiX, ← hf] at hn
            have HNX := Lib.hid (NetX.next hn (by rw [hfx.1]; decide) (fun g hg => by cases hg) (fun g hg => by
              obtain ⟨q, hq, rfl⟩ := List.getElem_of_mem hg
              rw [List.getElem_drop, hfx.1, (HXS.out _ (by rw [List.length_drop] at hq; omega)).1]; decide))
            have HIX := Lib.hid hfx.2
            clear hf hfx hn HN hiX
            go_wp2_with fail
            refine HNX.out.mono ?_
            rintro e w4 ⟨rfl, N4, b4, k4⟩
            obtain ⟨W5, hst5, N5, M5, b5, s5⟩ := got_new N4 f.un f.uc f.vn f.vc f.ua f.va f.m
            have HB4 := Lib.hid (HB.out.trans (b4.mono HS1.out))
            have HB5 := Lib.hid (HB4.out.trans (b5.mono HB4.out.size))
            have HN5 := Lib.hid N5
            have c4 := M5.cells.1.2.2.2.2.1
            rw [HIX.out] at c4
            unfold mgV at hst5
            have HST := Lib.hid hst5
            have e7 : wrap64 ((i : Int) + 1) = (i : Int) + 1 := IntWalk.wrap64_in _ (by have := HC.out; omega)
            clear HNX HB N4 b4 k4 hst5 N5 M5 b5 s5
            unfold mgV Fl.u Fl.v
            go_wp2_with (first | (refine wpList_store_run HST.out rfl rfl rfl rfl ?_))
            go_roundw
            case rel => exact ⟨i + 1, by push_cast; rfl, hlt, HN5, HB5⟩
            case measure => simp [intOf]; omega
          · have hlt2 : decide ((i : Int) < (2000 : Int)) = false := by simp; omega
            have hik : i = 2000 := by omega
            have hn := HN.out
            rw [List.drop_of_length_le (by have := HXK.out; omega)] at hn
            have HNX := Lib.hid (hn.late (fun g hg => by cases hg))
            clear hn HN hik
            go_wp2_with fail
            refine HNX.out.mono ?_
            rintro e w4 ⟨rfl, N4, b4, k4⟩
            obtain ⟨W5, hst5, N5, M5, b5, s5⟩ := got_new N4 0 0 0 0 none none Mg.zero
            have HB4 := Lib.hid (HB.out.trans (b4.mono HS1.out))
            have HB5 := Lib.hid (HB4.out.trans (b5.mono HB4.out.size))
            unfold mgV at hst5
            have HST := Lib.hid hst5
            clear HNX HB N4 b4 k4 hst5 N5 M5 b5 s5
            unfold mgV
            go_wp2_with (first | (refine wpList_store_run HST.out rfl rfl rfl rfl ?_))
            go_ret
            exact ⟨rfl, HB5.out⟩

theorem own : ownKnob Try.prog.godebug = none := by kernel_rfl
theorem laidOut : laidOutB Try.prog = true := by kernel_rfl

set_option maxRecDepth 100000 in
theorem lifted (os : Os) (started : os.Started) (H : Type) (enc : TypeId × Value → H) :
    ReturnsInHanded {} Try.checked os 4 .any (Rows.netManySpec.pre6 enc Try.prog Try.f4 Rows.netManyRow.domain false) (Rows.netManySpec.post enc Try.prog Try.f4 false true false false) := by
  refine returnsInHanded_of_change (C := Try.checked) own started (by kernel_rfl) Try.func4
    (ChangeSpec.witness6 (enc := enc) (C := Try.checked) false ⟨#[], #[.int .i64 0], []⟩ 8 (by kernel_rfl) (by kernel_rfl) (by kernel_rfl) (by kernel_rfl)) ?_
  intro W base args ds gs before hval0 hW hcnd _
  have hval : ∀ (j : Nat) t v, Try.f4.params[j]? = some t → args[j]? = some v → Value.okWide Try.prog W .any base t v := hval0
  have hW' := hW
  obtain ⟨p, q, hA0, hV, rfl, hfz, hnd⟩ := hW
  have hA : DataW.TrodAll enc Try.prog W 0 (fun _ => true) true Try.f4.params.toList args.toList ds p := hA0
  rw [Try.params4] at hA hval
  obtain ⟨v0, vs0, d0, ds0, p0, q0, hargs, rfl, rfl, h0, r0⟩ := trodAll_cons hA
  obtain ⟨rfl, rfl, rfl⟩ := trodAll_nil r0
  obtain rfl : args = #[v0] := by cases args; simp_all
  obtain ⟨rfl, rfl⟩ := trodVars_none hV
  obtain ⟨a0, rfl, rfl, rfl, w0⟩ := open_int Try.underlying3 (hval 0 3 v0 rfl rfl) h0
  clear hA0 hval0
  refine (walk a0 W w0).mono fun e W' ⟨he, bel⟩ => ?_
  subst he
  exact ⟨_, rfl, _, _, _, [], _, [], hW', trodAll_mk1 (shut_bool Try.underlying4 _), (trodAll_cons_mk (shut_int Try.underlying3 w0) trodAll_mk0), rfl, bel.frame _, fun h => by cases h⟩

theorem over : Rows.netManyRow.holds Try.pinned (OpenSpec.ofChange Rows.netManySpec) :=
  OpenClaim.holds_of_wide 4 Try.f4 rfl rfl rfl rfl rfl rfl rfl ⟨rfl, rfl, rfl, rfl, rfl⟩ rfl rfl rfl rfl rfl (by kernel_rfl) Try.func4 (by kernel_rfl)
    (of_decide_eq_true (by kernel_rfl)) (by unfold Func.isWrapper; first | (rw [if_pos (by decide +kernel)]; kernel_rfl) | (rw [if_neg (by decide +kernel)]; exact ⟨rfl, rfl⟩))
    (fun os started H enc _ => lifted os started H enc)

theorem proved : Rows.NetManySaid := over
end Go.Proofs.Ytfijidaohlnphaa.netMany
