/- The law's do: Seen, Close, Keep of both. No conditions beyond those in each statement. -/
import Derived.Test.YtckengglamkaaaaSessDo
import Derived.Test.YtckengglamkaaaaInvar4
import Derived.Deep.DeepCutAuto
namespace Go.Proofs.Ytckengglamkaaaa
open Go.RowKit Go.Maps Go.Sort
set_option linter.unusedVariables false
set_option maxRecDepth 100000

theorem MoW.put {w : World} {mp g cap : Nat} {L : List Me} (h : MoW w mp (some ⟨g, 0, none⟩) cap L) (i f : Nat) (e e' : Me) (u : Value) (he : L[i]? = some e) (hf : f < 3) (hu : (meOne e).set f u = meOne e') : MoW (w.setCell ⟨g, i * 3 + f, none⟩ u) mp (some ⟨g, 0, none⟩) cap (L.set i e') := by
  obtain ⟨h1, h2⟩ := h.row.stored (i * 3 + f) u
  rw [me_set L i f e e' u he hf hu] at h1
  refine ⟨?_, ?_, .inr ⟨g, rfl⟩⟩
  · rw [List.length_set]; exact (h2.block mp h.ltm (fun e => h.ne rfl (Option.some.inj e))).trans h.box
  · rw [List.length_set]; exact h1
def FK25 (mp ab g n cap i : Nat) (z : Int) : Nat → Value → World → Prop
  | 0, v, _ => v = .pointer (some ⟨mp, 0, none⟩)
  | 1, v, _ => v = .pointer (some ⟨mp, 0, none⟩)
  | 2, v, _ => v = .pointer (some ⟨mp, 0, none⟩)
  | 3, v, _ => v = .slice (some ⟨g, 0, none⟩) n cap
  | 4, v, _ => v = .int .i64 (i : Int)
  | 5, v, _ => v = .pointer (some ⟨ab, 2, none⟩)
  | 6, v, _ => v = .int .i64 z
  | 7, v, _ => v = .pointer (some ⟨g, i * 3, none⟩)
  | 8, v, _ => v = .pointer (some ⟨g, i * 3 + 1, none⟩)
  | _, _, _ => True
theorem FK25_keep {mp ab g n cap i : Nat} {z : Int} {v : Value} {w w' : World} : ∀ j : Nat, FK25 mp ab g n cap i z j v w → FK25 mp ab g n cap i z j v w'
  | 0, h => h
  | 1, h => h
  | 2, h => h
  | 3, h => h
  | 4, h => h
  | 5, h => h
  | 6, h => h
  | 7, h => h
  | 8, h => h
  | _ + 9, _ => trivial
def FK26 (mp ab g n cap i : Nat) (z : ByteArray) : Nat → Value → World → Prop
  | 0, v, _ => v = .pointer (some ⟨mp, 0, none⟩)
  | 1, v, _ => v = .pointer (some ⟨mp, 0, none⟩)
  | 2, v, _ => v = .pointer (some ⟨mp, 0, none⟩)
  | 3, v, _ => v = .slice (some ⟨g, 0, none⟩) n cap
  | 4, v, _ => v = .int .i64 (i : Int)
  | 5, v, _ => v = .pointer (some ⟨ab, 3, none⟩)
  | 6, v, _ => v = .string z
  | 7, v, _ => v = .pointer (some ⟨g, i * 3, none⟩)
  | 8, v, _ => v = .pointer (some ⟨g, i * 3 + 2, none⟩)
  | _, _, _ => True
theorem FK26_keep {mp ab g n cap i : Nat} {z : ByteArray} {v : Value} {w w' : World} : ∀ j : Nat, FK26 mp ab g n cap i z j v w → FK26 mp ab g n cap i z j v w'
  | 0, h => h
  | 1, h => h
  | 2, h => h
  | 3, h => h
  | 4, h => h
  | 5, h => h
  | 6, h => h
  | 7, h => h
  | 8, h => h
  | _ + 9, _ => trivial
set_option maxHeartbeats 8000000 in
theorem sdo_keep (m tb mb k mp cap : Nat) (a : Option Addr) (T : Int → Option Ss) (L : List Me) (q : Sa) (qv : Int) (w : World) (h2 : TwoS m w tb mb k mp cap a T L) (hid : InR q.id) (hrq : InR q.req) (hqa : q.ans.size ≤ 1000) (hk : k < 100000) (hq : wrap64 ((IntKind.u64.wrap q.k).tmod 5) = qv) (hq23 : qv = 2 ∨ qv = 3) :
    Calls Try.prog 12 #[.pointer (some ⟨mp, 0, none⟩), .pointer (some ⟨tb, 0, none⟩), actV q] w fun e w' => e = .returned (.bool true) ∧ DoR m w w' tb mb k mp a := by
  have H2 := Lib.hid h2
  obtain ⟨qk, qi, qr, qa⟩ := q
  simp only at hid hq hrq hqa
  have b1 := (Below.refl w.heap.size w).alloc (Nat.le_refl _) (.cells #[.int .i64 qk, .int .i64 qi, .int .i64 qr, .string qa] 32)
  have N1 := heap_alloc_new w (.cells #[.int .i64 qk, .int .i64 qi, .int .i64 qr, .string qa] 32)
  have hl1000 : L.length ≤ 1000 := by have := h2.few; omega
  have HA := Lib.hid (fun (W : World) (hW : Below w.heap.size w W) => at_any mp cap a L qi W (h2.mod.below hW) hl1000)
  have hm0 := h2.above.2.2.2.1
  have HSM := Lib.hid (fun (W : World) (hW : Below w.heap.size w W) => mseen_any mp cap a L T qi qr W (h2.mod.below hW) h2.rep hl1000)
  obtain ⟨ai, hai⟩ : ∃ ai, ai = atI L qi L.length := ⟨_, rfl⟩
  rw [← hai] at HA
  obtain ⟨er, her⟩ : ∃ er, er = (seenS T qi qr).2.2 := ⟨_, rfl⟩
  obtain ⟨sn, hsn⟩ : ∃ sn, sn = (seenS T qi qr).2.1 := ⟨_, rfl⟩
  obtain ⟨tx, htx⟩ : ∃ tx, tx = (seenS T qi qr).1 := ⟨_, rfl⟩
  rw [← her, ← hsn, ← htx] at HSM
  by_cases h0 : er = 0
  · have hsome : (T qi).isSome = true := seen_ok (her.symm.trans h0)
    cases hs : sn
    · by_cases h4 : 400 < qa.size
      · have hE : keepE T qi qr qa = 3 := by unfold keepE; rw [if_neg (by rw [← her]; exact fun e => e h0), ← hsn, hs, if_neg (by decide), if_pos h4]
        have hTT : keepT T qi qr qa = T := by unfold keepT; rw [hE, if_neg (by decide)]
        have d4 : decide ((400 : Int) < (qa.size : Int)) = true := by simp; omega
        subst h0 hs
        have HKP := Lib.hid (fun (W : World) (hW : Below w.heap.size w W) => (by
          have := keep_any tb mb k L.length T qi qr qa W (h2.table.below hW) hid (by omega) (by omega)
          rw [hE, hTT] at this; exact this : Calls Try.prog 19 #[.pointer (some ⟨tb, 0, none⟩), .int .i64 qi, .int .i64 qr, .string qa] W fun e w' => e = .returned (.int .i64 3) ∧ Left10 W tb mb (k + 1) L.length T w'))

        clear hE hTT h2 her hsn htx hsome h4 hai
        rcases hq23 with rfl | rfl
        all_goals
          unfold actV
          go_enter Try.func12, Try.ntmps12
          go_upto_region 1 with fail
          obtain ⟨w1, hw1⟩ : ∃ w1, w1 = w.alloc (.cells #[.int .i64 qk, .int .i64 qi, .int .i64 qr, .string qa] 32) := ⟨_, rfl⟩
          rw [← hw1] at b1 N1 ⊢
          have hlt : w.heap.size < w1.heap.size := (Array.getElem?_eq_some_iff.1 N1).1
          have c1 : w1.cell? ⟨w.heap.size, 1, none⟩ = some (.int .i64 qi) := by simp [World.cell?, N1]
          clear hw1
          go_wp2_with fail
          refine (HA.out _ b1).mono ?_
          rintro e w2 ⟨rfl, b2⟩
          have N2 := (b2.block w.heap.size hlt).trans N1
          replace b2 := b1.trans (b2.mono b1.size)
          clear N1 b1 c1 hlt
          have c0 : w2.cell? ⟨w.heap.size, 0, none⟩ = some (.int .i64 qk) := by simp [World.cell?, N2]
          have c1 : w2.cell? ⟨w.heap.size, 1, none⟩ = some (.int .i64 qi) := by simp [World.cell?, N2]
          have c2 : w2.cell? ⟨w.heap.size, 2, none⟩ = some (.int .i64 qr) := by simp [World.cell?, N2]
          have c3 : w2.cell? ⟨w.heap.size, 3, none⟩ = some (.string qa) := by simp [World.cell?, N2]
          have hlt2 : w.heap.size < w2.heap.size := (Array.getElem?_eq_some_iff.1 N2).1
          have HN2 := Lib.hid N2
          clear N2
          go_wp2_with fail
          refine (HSM.out _ b2).mono ?_
          rintro e w3 ⟨rfl, b3⟩
          have N3 := (b3.block w.heap.size hlt2).trans HN2.out
          replace b3 := b2.trans (b3.mono b2.size)
          have d1 : w3.cell? ⟨w.heap.size, 1, none⟩ = some (.int .i64 qi) := by simp [World.cell?, N3]
          have d2 : w3.cell? ⟨w.heap.size, 2, none⟩ = some (.int .i64 qr) := by simp [World.cell?, N3]
          have d3 : w3.cell? ⟨w.heap.size, 3, none⟩ = some (.string qa) := by simp [World.cell?, N3]
          clear N3 b2 c0 c1 c2 c3 hlt2 HN2
          go_wp2_with fail
          refine (HKP.out _ b3).mono ?_
          rintro e w4 ⟨rfl, L4⟩
          have M4 := (H2.out.mod.below b3).left L4.2 H2.out.ne.2.1 (fun g hg => (H2.out.ne.2.2 g hg).2)
          have b4 := (b3.mono hm0).trans (left10_below L4 H2.out.above.2.1 (Nat.le_trans hm0 b3.size))
          go_wp2_with fail
          go_ret
          exact ⟨by simp, b4, (Onl.below b3).left b3.size L4.2, cap, a, T, L, ⟨L4.1, M4, H2.out.rep, H2.out.few, H2.out.small, H2.out.ne, H2.out.above.1, H2.out.above.2.1, H2.out.above.2.2.1, Nat.le_trans hm0 (by have := b3.size; have := L4.2.size; omega), H2.out.above.2.2.2.2⟩⟩
      · have hE : keepE T qi qr qa = 0 := by unfold keepE; rw [if_neg (by rw [← her]; exact fun e => e h0), ← hsn, hs, if_neg (by decide), if_neg h4]
        have hTT : keepT T qi qr qa = updS T qi (some ⟨qr, qa⟩) := by unfold keepT; rw [hE, if_pos rfl]
        have d4 : decide ((400 : Int) < (qa.size : Int)) = false := by simp; omega
        obtain ⟨s, hTs⟩ := Option.isSome_iff_exists.1 hsome
        obtain ⟨i, hi, hLi⟩ := h2.rep.at_some hTs
        rw [hi] at hai
        subst hai
        have hil : i < L.length := (List.getElem?_eq_some_iff.1 hLi).1
        obtain ⟨g, hg⟩ : ∃ g, a = some ⟨g, 0, none⟩ := by
          rcases h2.mod.form with ⟨_, h0, _⟩ | h0
          · rw [h0] at hil; simp at hil
          · exact h0
        subst hg
        have HKP := Lib.hid (fun (W : World) (hW : TbW W tb mb k L.length T) => (by
          have := keep_any tb mb k L.length T qi qr qa W hW hid (by omega) (by omega)
          rw [hE, hTT] at this; exact this : Calls Try.prog 19 #[.pointer (some ⟨tb, 0, none⟩), .int .i64 qi, .int .i64 qr, .string qa] W fun e w' => e = .returned (.int .i64 0) ∧ Left10 W tb mb (k + 1) L.length (updS T qi (some ⟨qr, qa⟩)) w'))
        have HIL := Lib.hid hil
        have HLI := Lib.hid hLi
        have HRS := Lib.hid (h2.rep.set hLi ⟨qr, qa⟩)
        have hcap := h2.mod.cap_le
        have HNL : Hid (L.length ≤ cap ∧ L.length ≤ 1000) := Lib.hid ⟨hcap.1, hl1000⟩
        have HH4 := Lib.hid h4
        have HOQ := Lib.hid (h2.small qi s hTs).2
        have HOK := Lib.hid (seen_okN (her.symm.trans h0))
        have i0 : (0 : Int) ≤ (i : Int) := by omega
        have hgw : g < w.heap.size := h2.mod.ltg rfl
        subst h0 hs
        clear hE hTT h2 her hsn htx hsome h4 hi hLi hTs hcap hil
        rcases hq23 with rfl | rfl
        all_goals
          unfold actV
          go_enter Try.func12, Try.ntmps12
          go_upto_region 1 with fail
          obtain ⟨w1, hw1⟩ : ∃ w1, w1 = w.alloc (.cells #[.int .i64 qk, .int .i64 qi, .int .i64 qr, .string qa] 32) := ⟨_, rfl⟩
          rw [← hw1] at b1 N1 ⊢
          have hlt : w.heap.size < w1.heap.size := (Array.getElem?_eq_some_iff.1 N1).1
          have c1 : w1.cell? ⟨w.heap.size, 1, none⟩ = some (.int .i64 qi) := by simp [World.cell?, N1]
          clear hw1
          go_wp2_with fail
          refine (HA.out _ b1).mono ?_
          rintro e w2 ⟨rfl, b2⟩
          have N2 := (b2.block w.heap.size hlt).trans N1
          replace b2 := b1.trans (b2.mono b1.size)
          clear N1 b1 c1 hlt
          have c0 : w2.cell? ⟨w.heap.size, 0, none⟩ = some (.int .i64 qk) := by simp [World.cell?, N2]
          have c1 : w2.cell? ⟨w.heap.size, 1, none⟩ = some (.int .i64 qi) := by simp [World.cell?, N2]
          have c2 : w2.cell? ⟨w.heap.size, 2, none⟩ = some (.int .i64 qr) := by simp [World.cell?, N2]
          have c3 : w2.cell? ⟨w.heap.size, 3, none⟩ = some (.string qa) := by simp [World.cell?, N2]
          have hlt2 : w.heap.size < w2.heap.size := (Array.getElem?_eq_some_iff.1 N2).1
          have HN2 := Lib.hid N2
          clear N2
          go_wp2_with fail
          refine (HSM.out _ b2).mono ?_
          rintro e w3 ⟨rfl, b3⟩
          have N3 := (b3.block w.heap.size hlt2).trans HN2.out
          replace b3 := b2.trans (b3.mono b2.size)
          have d1 : w3.cell? ⟨w.heap.size, 1, none⟩ = some (.int .i64 qi) := by simp [World.cell?, N3]
          have d2 : w3.cell? ⟨w.heap.size, 2, none⟩ = some (.int .i64 qr) := by simp [World.cell?, N3]
          have d3 : w3.cell? ⟨w.heap.size, 3, none⟩ = some (.string qa) := by simp [World.cell?, N3]
          have hlt3 : w.heap.size < w3.heap.size := (Array.getElem?_eq_some_iff.1 N3).1
          have HN3 := Lib.hid N3
          have M3 := H2.out.mod.below b3
          clear N3 b2 c0 c1 c2 c3 hlt2 HN2
          go_upto_region 25 with fail
          have HM3 := Lib.hid M3
          have HB3 := Lib.hid b3
          have HCE : Hid (∀ W : World, Below w3.drew.heap.size w3.drew W → W.cell? ⟨mp, 0, none⟩ = some (.slice (some ⟨g, 0, none⟩) L.length cap) ∧ W.cell? ⟨w.heap.size, 2, none⟩ = some (.int .i64 qr) ∧ W.cell? ⟨g, i * 3 + 1, none⟩ = some (.int .i64 s.req) ∧ W.frozen? ⟨g, i * 3 + 1, none⟩ = false) := Lib.hid fun W hW => by
            have hW' : Below w3.heap.size w3 W := (Below.refl _ w3).drew.trans (hW.mono (Nat.le_refl _))
            have hx := HM3.out.below hW'
            obtain ⟨g', hg', q0, q1, q2⟩ := hx.cells i _ HLI.out
            obtain rfl : g = g' := by injection hg' with hg'; injection hg' with hg' _ _
            have hN := (hW'.block w.heap.size hlt3).trans HN3.out
            exact ⟨hx.cell, by simp [World.cell?, hN], q1, hx.frozen rfl _⟩
          have HD3 : Hid (∀ W : World, Below w3.drew.heap.size w3.drew W → Below w3.heap.size w3 W) := Lib.hid fun W hW => (Below.refl _ w3).drew.trans (hW.mono (Nat.le_refl _))
          clear d1 d2 d3 M3
          go_cut [7] (fun p wx => p = .int .i64 (i : Int) ∧ ∃ w6, Below w3.heap.size w3 w6 ∧ wx = w6.setCell ⟨g, i * 3 + 1, none⟩ (.int .i64 qr))
          case first =>
            refine wp_region_steps_last 9 (FK25 mp w.heap.size g L.length cap i qr) (fun w w' => Below w.heap.size w w') (by kernel_rfl) (by kernel_rfl) (by kernel_rfl) (by kernel_rfl) (by kernel_rfl) (Below.refl _ _) ?_ (fun u v w h1 h2 => h1.trans (h2.mono h1.size)) ?_ ?_
            · intro i v w w' _ h1 h2
              exact FK25_keep i h1
            · intro j o hi ho x w1 hR hF
              match j, ho with
              | 0, ho =>
                obtain rfl := Option.some.inj ho
                exact gstep_move rfl (wanted0 rfl) _ rfl _ (eval_of 0 _ (by kernel_rfl) rfl) ⟨_, rfl, rfl, Below.refl _ _⟩
              | 1, ho =>
                obtain rfl := Option.some.inj ho
                exact gstep_nil rfl (wanted0 rfl) _ rfl _ (eval_at 149 0 _ (by kernel_rfl) (show 149 < 220 by decide) (hF 0 (by kernel_rfl))) ⟨_, rfl, rfl, Below.refl _ _⟩
              | 2, ho =>
                obtain rfl := Option.some.inj ho
                exact gstep_field rfl (wanted0 rfl) _ _ _ rfl _ (eval_at 150 1 _ (by kernel_rfl) (show 150 < 220 by decide) (hF 1 (by kernel_rfl))) _ (run_mdf w1 _) ⟨_, rfl, rfl, Below.refl _ _⟩
              | 3, ho =>
                obtain rfl := Option.some.inj ho
                exact gstep_load rfl (wanted0 rfl) _ _ rfl _ (eval_at 151 2 _ (by kernel_rfl) (show 151 < 220 by decide) (hF 2 (by kernel_rfl))) _ (run_loadMs w1 _ _ _ _ (HCE.out w1 hR).1) ⟨_, rfl, rfl, Below.refl _ _⟩
              | 4, ho =>
                obtain rfl := Option.some.inj ho
                exact gstep_move rfl (wanted0 rfl) _ rfl _ (eval_of 7 _ (by kernel_rfl) rfl) ⟨_, rfl, rfl, Below.refl _ _⟩
              | 5, ho =>
                obtain rfl := Option.some.inj ho
                exact gstep_field rfl (wanted0 rfl) _ _ _ rfl _ (eval_of 5 _ (by kernel_rfl) rfl) _ (run_fA2 w1 _) ⟨_, rfl, rfl, Below.refl _ _⟩
              | 6, ho =>
                obtain rfl := Option.some.inj ho
                exact gstep_load rfl (wanted0 rfl) _ _ rfl _ (eval_at 154 5 _ (by kernel_rfl) (show 154 < 220 by decide) (hF 5 (by kernel_rfl))) _ (run_loadI w1 _ _ (HCE.out w1 hR).2.1) ⟨_, rfl, rfl, Below.refl _ _⟩
              | 7, ho =>
                obtain rfl := Option.some.inj ho
                exact gstep_index rfl (wanted0 rfl) _ _ _ rfl _ _ (eval_at 152 3 _ (by kernel_rfl) (show 152 < 220 by decide) (hF 3 (by kernel_rfl))) (eval_at 153 4 _ (by kernel_rfl) (show 153 < 220 by decide) (hF 4 (by kernel_rfl))) _ (run_idxE w1 _ _ _ _ HIL.out HNL.out) ⟨_, rfl, rfl, Below.refl _ _⟩
              | 8, ho =>
                obtain rfl := Option.some.inj ho
                exact gstep_field rfl (wanted0 rfl) _ _ _ rfl _ (eval_at 156 7 _ (by kernel_rfl) (show 156 < 220 by decide) (hF 7 (by kernel_rfl))) _ (run_fE1 w1 _ _) ⟨_, rfl, rfl, Below.refl _ _⟩
              | n + 9, ho => omega
            · intro o ho x w1 hR hF
              obtain rfl := Option.some.inj ho
              refine gstep_store rfl (wanted0 rfl) _ _ _ rfl _ _ (eval_at 157 8 _ (by kernel_rfl) (show 157 < 220 by decide) (hF 8 (by decide))) (eval_at 155 6 _ (by kernel_rfl) (show 155 < 220 by decide) (hF 6 (by decide))) _ (run_storeI w1 _ _ _ (HCE.out w1 hR).2.2.1 (HCE.out w1 hR).2.2.2) ?_
              simp only [putAll, Act.put, List.setIfInBounds_toArray, List.set_cons_succ, List.set_cons_zero]
              go_wp2_with fail
              go_meet
              exact ⟨rfl, w1, HD3.out w1 hR, rfl⟩
          case rest =>
            obtain ⟨rfl, w6, b6, rfl⟩ := hcut
            have M7 := (HM3.out.below b6).put i 1 (qi, s) (qi, ⟨qr, s.ans⟩) (.int .i64 qr) HLI.out (by decide) rfl
            have hgn : w.heap.size ≠ g := by omega
            have N7 : (w6.setCell ⟨g, i * 3 + 1, none⟩ (.int .i64 qr)).heap[w.heap.size]? = _ := (Below.heap_setCell w6 ⟨g, i * 3 + 1, none⟩ _ w.heap.size hgn).trans ((b6.block w.heap.size hlt3).trans HN3.out)
            have T6 := (H2.out.table.below HB3.out).below b6
            have T7 : TbW (w6.setCell ⟨g, i * 3 + 1, none⟩ (.int .i64 qr)) tb mb k L.length T :=
              ⟨(Below.heap_setCell w6 ⟨g, i * 3 + 1, none⟩ _ tb (H2.out.ne.2.2 g rfl).1).trans T6.table, T6.map.keep0 (Below.heap_setCell w6 ⟨g, i * 3 + 1, none⟩ _ mb (H2.out.ne.2.2 g rfl).2)⟩
            have b7 : Below m w (w6.setCell ⟨g, i * 3 + 1, none⟩ (.int .i64 qr)) := ((HB3.out.trans (b6.mono HB3.out.size)).mono hm0).setCell (p := ⟨g, i * 3 + 1, none⟩) (H2.out.above.2.2.2.2 g rfl) _
            have o7 : Onl w (w6.setCell ⟨g, i * 3 + 1, none⟩ (.int .i64 qr)) mb mp (some ⟨g, 0, none⟩) := (Onl.below (HB3.out.trans (b6.mono HB3.out.size))).row _ _
            have hL7 : (L.set i (qi, (⟨qr, s.ans⟩ : Ss)))[i]? = some (qi, ⟨qr, s.ans⟩) := List.getElem?_set_self HIL.out
            obtain ⟨w7, hw7⟩ : ∃ w7, w7 = w6.setCell ⟨g, i * 3 + 1, none⟩ (.int .i64 qr) := ⟨_, rfl⟩
            rw [← hw7] at M7 N7 T7 b7 o7 ⊢
            have hlt7 : w.heap.size < w7.heap.size := (Array.getElem?_eq_some_iff.1 N7).1
            have HM7 := Lib.hid M7
            have HN7 := Lib.hid N7
            have HT7 := Lib.hid T7
            have HL7 := Lib.hid hL7
            have hl7 : (L.set i (qi, (⟨qr, s.ans⟩ : Ss))).length = L.length := List.length_set
            have HCE : Hid (∀ W : World, Below w7.drew.heap.size w7.drew W → W.cell? ⟨mp, 0, none⟩ = some (.slice (some ⟨g, 0, none⟩) L.length cap) ∧ W.cell? ⟨w.heap.size, 3, none⟩ = some (.string qa) ∧ W.cell? ⟨g, i * 3 + 2, none⟩ = some (.string s.ans) ∧ W.frozen? ⟨g, i * 3 + 2, none⟩ = false) := Lib.hid fun W hW => by
              have hW' : Below w7.heap.size w7 W := (Below.refl _ w7).drew.trans (hW.mono (Nat.le_refl _))
              have hx := HM7.out.below hW'
              obtain ⟨g', hg', q0, q1, q2⟩ := hx.cells i _ HL7.out
              obtain rfl : g = g' := by injection hg' with hg'; injection hg' with hg' _ _
              have hN := (hW'.block w.heap.size hlt7).trans HN7.out
              have hc := hx.cell
              rw [hl7] at hc
              exact ⟨hc, by simp [World.cell?, hN], q2, hx.frozen rfl _⟩
            have HD7 : Hid (∀ W : World, Below w7.drew.heap.size w7.drew W → Below w7.heap.size w7 W) := Lib.hid fun W hW => (Below.refl _ w7).drew.trans (hW.mono (Nat.le_refl _))
            clear hw7 M7 N7 T7 T6 b6 hL7
            go_upto_region 26 with fail
            refine wp_region_steps_last 9 (FK26 mp w.heap.size g L.length cap i qa) (fun w w' => Below w.heap.size w w') (by kernel_rfl) (by kernel_rfl) (by kernel_rfl) (by kernel_rfl) (by kernel_rfl) (Below.refl _ _) ?_ (fun u v w h1 h2 => h1.trans (h2.mono h1.size)) ?_ ?_
            · intro i v w w' _ h1 h2
              exact FK26_keep i h1
            · intro j o hi ho x w1 hR hF
              match j, ho with
              | 0, ho =>
                obtain rfl := Option.some.inj ho
                exact gstep_move rfl (wanted0 rfl) _ rfl _ (eval_of 0 _ (by kernel_rfl) rfl) ⟨_, rfl, rfl, Below.refl _ _⟩
              | 1, ho =>
                obtain rfl := Option.some.inj ho
                exact gstep_nil rfl (wanted0 rfl) _ rfl _ (eval_at 158 0 _ (by kernel_rfl) (show 158 < 220 by decide) (hF 0 (by kernel_rfl))) ⟨_, rfl, rfl, Below.refl _ _⟩
              | 2, ho =>
                obtain rfl := Option.some.inj ho
                exact gstep_field rfl (wanted0 rfl) _ _ _ rfl _ (eval_at 159 1 _ (by kernel_rfl) (show 159 < 220 by decide) (hF 1 (by kernel_rfl))) _ (run_mdf w1 _) ⟨_, rfl, rfl, Below.refl _ _⟩
              | 3, ho =>
                obtain rfl := Option.some.inj ho
                exact gstep_load rfl (wanted0 rfl) _ _ rfl _ (eval_at 160 2 _ (by kernel_rfl) (show 160 < 220 by decide) (hF 2 (by kernel_rfl))) _ (run_loadMs w1 _ _ _ _ (HCE.out w1 hR).1) ⟨_, rfl, rfl, Below.refl _ _⟩
              | 4, ho =>
                obtain rfl := Option.some.inj ho
                exact gstep_move rfl (wanted0 rfl) _ rfl _ (eval_of 7 _ (by kernel_rfl) rfl) ⟨_, rfl, rfl, Below.refl _ _⟩
              | 5, ho =>
                obtain rfl := Option.some.inj ho
                exact gstep_field rfl (wanted0 rfl) _ _ _ rfl _ (eval_of 5 _ (by kernel_rfl) rfl) _ (run_fA3 w1 _) ⟨_, rfl, rfl, Below.refl _ _⟩
              | 6, ho =>
                obtain rfl := Option.some.inj ho
                exact gstep_load rfl (wanted0 rfl) _ _ rfl _ (eval_at 163 5 _ (by kernel_rfl) (show 163 < 220 by decide) (hF 5 (by kernel_rfl))) _ (run_loadT w1 _ _ (HCE.out w1 hR).2.1) ⟨_, rfl, rfl, Below.refl _ _⟩
              | 7, ho =>
                obtain rfl := Option.some.inj ho
                exact gstep_index rfl (wanted0 rfl) _ _ _ rfl _ _ (eval_at 161 3 _ (by kernel_rfl) (show 161 < 220 by decide) (hF 3 (by kernel_rfl))) (eval_at 162 4 _ (by kernel_rfl) (show 162 < 220 by decide) (hF 4 (by kernel_rfl))) _ (run_idxE w1 _ _ _ _ HIL.out HNL.out) ⟨_, rfl, rfl, Below.refl _ _⟩
              | 8, ho =>
                obtain rfl := Option.some.inj ho
                exact gstep_field rfl (wanted0 rfl) _ _ _ rfl _ (eval_at 165 7 _ (by kernel_rfl) (show 165 < 220 by decide) (hF 7 (by kernel_rfl))) _ (run_fE2 w1 _ _) ⟨_, rfl, rfl, Below.refl _ _⟩
              | n + 9, ho => omega
            · intro o ho x w1 hR hF
              obtain rfl := Option.some.inj ho
              refine gstep_store rfl (wanted0 rfl) _ _ _ rfl _ _ (eval_at 166 8 _ (by kernel_rfl) (show 166 < 220 by decide) (hF 8 (by decide))) (eval_at 164 6 _ (by kernel_rfl) (show 164 < 220 by decide) (hF 6 (by decide))) _ (run_storeT w1 _ _ _ (HCE.out w1 hR).2.2.1 (HCE.out w1 hR).2.2.2) ?_
              simp only [putAll, Act.put, List.setIfInBounds_toArray, List.set_cons_succ, List.set_cons_zero]
              obtain ⟨w8, hw8⟩ : ∃ w8, w8 = w1 := ⟨_, rfl⟩
              subst hw8
              have b8 := HD7.out w8 hR
              clear hF hR
              have M9 := (HM7.out.below b8).put i 2 (qi, ⟨qr, s.ans⟩) (qi, ⟨qr, qa⟩) (.string qa) HL7.out (by decide) rfl
              have N9 : (w8.setCell ⟨g, i * 3 + 2, none⟩ (.string qa)).heap[w.heap.size]? = _ := (Below.heap_setCell w8 ⟨g, i * 3 + 2, none⟩ _ w.heap.size hgn).trans ((b8.block w.heap.size hlt7).trans HN7.out)
              have T8 := HT7.out.below b8
              have T9 : TbW (w8.setCell ⟨g, i * 3 + 2, none⟩ (.string qa)) tb mb k L.length T :=
                ⟨(Below.heap_setCell w8 ⟨g, i * 3 + 2, none⟩ _ tb (H2.out.ne.2.2 g rfl).1).trans T8.table, T8.map.keep0 (Below.heap_setCell w8 ⟨g, i * 3 + 2, none⟩ _ mb (H2.out.ne.2.2 g rfl).2)⟩
              have hm7 : m ≤ w7.heap.size := Nat.le_trans hm0 b7.size
              have b9 : Below m w (w8.setCell ⟨g, i * 3 + 2, none⟩ (.string qa)) := (b7.trans (b8.mono hm7)).setCell (p := ⟨g, i * 3 + 2, none⟩) (H2.out.above.2.2.2.2 g rfl) _
              have o9 : Onl w (w8.setCell ⟨g, i * 3 + 2, none⟩ (.string qa)) mb mp (some ⟨g, 0, none⟩) := (o7.next b7.size b8).row _ _
              obtain ⟨w9, hw9⟩ : ∃ w9, w9 = w8.setCell ⟨g, i * 3 + 2, none⟩ (.string qa) := ⟨_, rfl⟩
              rw [← hw9] at M9 N9 T9 b9 o9 ⊢
              have d1 : w9.cell? ⟨w.heap.size, 1, none⟩ = some (.int .i64 qi) := by simp [World.cell?, N9]
              have d2 : w9.cell? ⟨w.heap.size, 2, none⟩ = some (.int .i64 qr) := by simp [World.cell?, N9]
              have d3 : w9.cell? ⟨w.heap.size, 3, none⟩ = some (.string qa) := by simp [World.cell?, N9]
              rw [List.set_set] at M9
              have HM9 := Lib.hid M9
              clear hw9 M9 N9 T8 b8 HCE
              go_wp2_with fail
              refine (HKP.out _ T9).mono ?_
              rintro e w10 ⟨rfl, L10⟩
              have M10 := HM9.out.left L10.2 H2.out.ne.2.1 (fun g hg => (H2.out.ne.2.2 g hg).2)
              have b10 := b9.trans (left10_below L10 H2.out.above.2.1 (Nat.le_trans hm0 b9.size))
              have hll : (L.set i (qi, (⟨qr, qa⟩ : Ss))).length = L.length := List.length_set
              go_wp2_with fail
              go_ret
              refine ⟨rfl, b10, o9.left b9.size L10.2, cap, _, _, _, ⟨by rw [hll]; exact L10.1, M10, HRS.out, by rw [hll]; exact H2.out.few, fun x t hx => ?_, H2.out.ne, H2.out.above.1, H2.out.above.2.1, H2.out.above.2.2.1, Nat.le_trans hm0 b10.size, H2.out.above.2.2.2.2⟩⟩
              by_cases e : x = qi
              · rw [e, updS_same] at hx; injection hx with hx; rw [← hx]; exact ⟨⟨hrq, by have := HH4.out; simp only; omega, .inr HOK.out⟩, by rw [e]; exact HOQ.out⟩
              · rw [updS_other e] at hx; exact H2.out.small x t hx
    · have hE : keepE T qi qr qa = 18 := by unfold keepE; rw [if_neg (by rw [← her]; exact fun e => e h0), ← hsn, hs, if_pos rfl]
      have hTT : keepT T qi qr qa = T := by unfold keepT; rw [hE, if_neg (by decide)]
      subst h0 hs
      have HKP := Lib.hid (fun (W : World) (hW : Below w.heap.size w W) => (by
        have := keep_any tb mb k L.length T qi qr qa W (h2.table.below hW) hid (by omega) (by omega)
        rw [hE, hTT] at this; exact this : Calls Try.prog 19 #[.pointer (some ⟨tb, 0, none⟩), .int .i64 qi, .int .i64 qr, .string qa] W fun e w' => e = .returned (.int .i64 18) ∧ Left10 W tb mb (k + 1) L.length T w'))

      clear hE hTT h2 her hsn htx hsome hai
      rcases hq23 with rfl | rfl
      all_goals
        unfold actV
        go_enter Try.func12, Try.ntmps12
        go_upto_region 1 with fail
        obtain ⟨w1, hw1⟩ : ∃ w1, w1 = w.alloc (.cells #[.int .i64 qk, .int .i64 qi, .int .i64 qr, .string qa] 32) := ⟨_, rfl⟩
        rw [← hw1] at b1 N1 ⊢
        have hlt : w.heap.size < w1.heap.size := (Array.getElem?_eq_some_iff.1 N1).1
        have c1 : w1.cell? ⟨w.heap.size, 1, none⟩ = some (.int .i64 qi) := by simp [World.cell?, N1]
        clear hw1
        go_wp2_with fail
        refine (HA.out _ b1).mono ?_
        rintro e w2 ⟨rfl, b2⟩
        have N2 := (b2.block w.heap.size hlt).trans N1
        replace b2 := b1.trans (b2.mono b1.size)
        clear N1 b1 c1 hlt
        have c0 : w2.cell? ⟨w.heap.size, 0, none⟩ = some (.int .i64 qk) := by simp [World.cell?, N2]
        have c1 : w2.cell? ⟨w.heap.size, 1, none⟩ = some (.int .i64 qi) := by simp [World.cell?, N2]
        have c2 : w2.cell? ⟨w.heap.size, 2, none⟩ = some (.int .i64 qr) := by simp [World.cell?, N2]
        have c3 : w2.cell? ⟨w.heap.size, 3, none⟩ = some (.string qa) := by simp [World.cell?, N2]
        have hlt2 : w.heap.size < w2.heap.size := (Array.getElem?_eq_some_iff.1 N2).1
        have HN2 := Lib.hid N2
        clear N2
        go_wp2_with fail
        refine (HSM.out _ b2).mono ?_
        rintro e w3 ⟨rfl, b3⟩
        have N3 := (b3.block w.heap.size hlt2).trans HN2.out
        replace b3 := b2.trans (b3.mono b2.size)
        have d1 : w3.cell? ⟨w.heap.size, 1, none⟩ = some (.int .i64 qi) := by simp [World.cell?, N3]
        have d2 : w3.cell? ⟨w.heap.size, 2, none⟩ = some (.int .i64 qr) := by simp [World.cell?, N3]
        have d3 : w3.cell? ⟨w.heap.size, 3, none⟩ = some (.string qa) := by simp [World.cell?, N3]
        clear N3 b2 c0 c1 c2 c3 hlt2 HN2
        go_wp2_with fail
        refine (HKP.out _ b3).mono ?_
        rintro e w4 ⟨rfl, L4⟩
        have M4 := (H2.out.mod.below b3).left L4.2 H2.out.ne.2.1 (fun g hg => (H2.out.ne.2.2 g hg).2)
        have b4 := (b3.mono hm0).trans (left10_below L4 H2.out.above.2.1 (Nat.le_trans hm0 b3.size))
        go_wp2_with fail
        go_ret
        exact ⟨by simp, b4, (Onl.below b3).left b3.size L4.2, cap, a, T, L, ⟨L4.1, M4, H2.out.rep, H2.out.few, H2.out.small, H2.out.ne, H2.out.above.1, H2.out.above.2.1, H2.out.above.2.2.1, Nat.le_trans hm0 (by have := b3.size; have := L4.2.size; omega), H2.out.above.2.2.2.2⟩⟩
  · have hE : keepE T qi qr qa = er := by unfold keepE; rw [if_pos (by rw [← her]; exact h0), ← her]
    have hTT : keepT T qi qr qa = T := by unfold keepT; rw [hE, if_neg h0]
    have e1 : (er != 0) = true := by simpa using h0
    have e2 : (er == 0) = false := by simpa using h0
    have e3 : (er == er) = true := by simp
    have HKP := Lib.hid (fun (W : World) (hW : Below w.heap.size w W) => (by
      have := keep_any tb mb k L.length T qi qr qa W (h2.table.below hW) hid (by omega) (by omega)
      rw [hE, hTT] at this; exact this : Calls Try.prog 19 #[.pointer (some ⟨tb, 0, none⟩), .int .i64 qi, .int .i64 qr, .string qa] W fun e w' => e = .returned (.int .i64 er) ∧ Left10 W tb mb (k + 1) L.length T w'))

    clear hE hTT h2 her hsn htx h0 hai
    rcases hq23 with rfl | rfl
    all_goals
      unfold actV
      go_enter Try.func12, Try.ntmps12
      go_upto_region 1 with fail
      obtain ⟨w1, hw1⟩ : ∃ w1, w1 = w.alloc (.cells #[.int .i64 qk, .int .i64 qi, .int .i64 qr, .string qa] 32) := ⟨_, rfl⟩
      rw [← hw1] at b1 N1 ⊢
      have hlt : w.heap.size < w1.heap.size := (Array.getElem?_eq_some_iff.1 N1).1
      have c1 : w1.cell? ⟨w.heap.size, 1, none⟩ = some (.int .i64 qi) := by simp [World.cell?, N1]
      clear hw1
      go_wp2_with fail
      refine (HA.out _ b1).mono ?_
      rintro e w2 ⟨rfl, b2⟩
      have N2 := (b2.block w.heap.size hlt).trans N1
      replace b2 := b1.trans (b2.mono b1.size)
      clear N1 b1 c1 hlt
      have c0 : w2.cell? ⟨w.heap.size, 0, none⟩ = some (.int .i64 qk) := by simp [World.cell?, N2]
      have c1 : w2.cell? ⟨w.heap.size, 1, none⟩ = some (.int .i64 qi) := by simp [World.cell?, N2]
      have c2 : w2.cell? ⟨w.heap.size, 2, none⟩ = some (.int .i64 qr) := by simp [World.cell?, N2]
      have c3 : w2.cell? ⟨w.heap.size, 3, none⟩ = some (.string qa) := by simp [World.cell?, N2]
      have hlt2 : w.heap.size < w2.heap.size := (Array.getElem?_eq_some_iff.1 N2).1
      have HN2 := Lib.hid N2
      clear N2
      go_wp2_with fail
      refine (HSM.out _ b2).mono ?_
      rintro e w3 ⟨rfl, b3⟩
      have N3 := (b3.block w.heap.size hlt2).trans HN2.out
      replace b3 := b2.trans (b3.mono b2.size)
      have d1 : w3.cell? ⟨w.heap.size, 1, none⟩ = some (.int .i64 qi) := by simp [World.cell?, N3]
      have d2 : w3.cell? ⟨w.heap.size, 2, none⟩ = some (.int .i64 qr) := by simp [World.cell?, N3]
      have d3 : w3.cell? ⟨w.heap.size, 3, none⟩ = some (.string qa) := by simp [World.cell?, N3]
      clear N3 b2 c0 c1 c2 c3 hlt2 HN2
      go_wp2_with fail
      refine (HKP.out _ b3).mono ?_
      rintro e w4 ⟨rfl, L4⟩
      have M4 := (H2.out.mod.below b3).left L4.2 H2.out.ne.2.1 (fun g hg => (H2.out.ne.2.2 g hg).2)
      have b4 := (b3.mono hm0).trans (left10_below L4 H2.out.above.2.1 (Nat.le_trans hm0 b3.size))
      go_wp2_with fail
      go_ret
      exact ⟨by simp, b4, (Onl.below b3).left b3.size L4.2, cap, a, T, L, ⟨L4.1, M4, H2.out.rep, H2.out.few, H2.out.small, H2.out.ne, H2.out.above.1, H2.out.above.2.1, H2.out.above.2.2.1, Nat.le_trans hm0 (by have := b3.size; have := L4.2.size; omega), H2.out.above.2.2.2.2⟩⟩
end Go.Proofs.Ytckengglamkaaaa
