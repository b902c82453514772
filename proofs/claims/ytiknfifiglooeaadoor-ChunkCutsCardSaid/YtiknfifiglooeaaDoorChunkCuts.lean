/- ChunkCuts: the chunks of a string are the string, and their list has its bytes and their sums; no condition on the input (the two tables start as the program text lays them). -/
import Derived.Test.YtiknfifiglooeaaDoorChunkSt
import Derived.Test.YtiknfifiglooeaaDoorRegP
import Derived.Test.YtiknfifiglooeaaDoorCards
import Derived.Test.YtiknfifiglooeaaDoorTie
import Derived.ProofKit
import Derived.OpenShut
import Derived.ShutString
import Derived.ChangeOld
import Derived.Deep.DeepHandedRow
import Derived.Lib.LaidTab
import Derived.Stop.LaidErr
namespace Go.Proofs.YtiknfifiglooeaaDoor.chunkCuts
open Go.ChangeShapes Go.WideShapes Go.ChangeAt Go.RowKit
open Go.ChangeMaps (open_string shut_string)
set_option linter.unusedVariables false
set_option maxRecDepth 100000
set_option maxHeartbeats 4000000 in
theorem walk (a0 a1 a2 a3 : Int) (w : World) (w0 : (Lit.int .i64 a0).wf = true) (w1 : (Lit.int .i64 a1).wf = true) (w2 : (Lit.int .i64 a2).wf = true) (w3 : (Lit.int .i64 a3).wf = true) (hT : Tabs w) :
    Calls Tryd.prog 5 #[.int .i64 a0, .int .i64 a1, .int .i64 a2, .int .i64 a3] w fun e w' => e = .returned (.bool true) ∧ Below w.heap.size w w' := by
  have HT := Lib.hid (fun (x : World) (hb : Below w.heap.size w x) => hT.below hb)
  clear hT
  obtain ⟨n, hn⟩ : ∃ n : Nat, (n : Int) = a0 % 4096 := ⟨(a0 % 4096).toNat, by omega⟩
  have hand : bits .and .i64 a0 4095 = (n : Int) := by rw [i64_and4095, hn]
  have HN : Hid (n < 4096) := by show n < 4096; omega
  have HX : Hid (bits .xor .i64 a2 1 ≠ a2) := xor1_ne a2
  clear hn w0 w1 w2 w3
  go_enter Tryd.func5, Tryd.ntmps5
  go_wp2_with fail
  refine (head7_any w HT.out).mono ?_
  rintro e w1 ⟨rfl, hb1⟩
  have HB1 := Lib.hid hb1
  clear hb1
  go_wp2_with fail
  refine (text7_any n a1 (by have := HN.out; omega) w1).mono ?_
  rintro e w2 ⟨s, rfl, hs, hb2⟩
  have HS := Lib.hid hs
  have HB2 := Lib.hid (HB1.out.trans (hb2.mono HB1.out.size))
  clear hs hb2 HB1
  go_wp2_with fail
  refine (cut_any s (by have := HN.out; have := HS.out; omega) w2).mono ?_
  rintro e w3 ⟨v, rfl, hrow, hb3⟩
  have HR3 := Lib.hid hrow
  have HB3 := Lib.hid (HB2.out.trans (hb3.mono HB2.out.size))
  clear hrow hb3 HB2
  obtain ⟨va, vc, hv⟩ := slice_of HR3.out
  subst hv
  go_wp2_with fail
  refine (cof_any a2 a3 s (by have := HN.out; have := HS.out; omega) w3 (HT.out w3 HB3.out)).mono ?_
  rintro e w4 ⟨sv, rfl, hrow4, hb4⟩
  obtain ⟨sa, sc, rfl⟩ := slice_of hrow4
  have HR4 := Lib.hid (World.ownsRow_below HR3.out hb4)
  have HSL : Hid ((sumsOf s).length ≤ 1000000) := by show _ ≤ _; rw [sumsOf_length]; unfold cutN; have := HN.out; have := HS.out; omega
  have HS4 := Lib.hid (SmR.of_row hrow4 HSL.out (sumsOf_in s))
  have HB4 := Lib.hid (HB3.out.trans (hb4.mono HB3.out.size))
  clear hrow4 hb4 HR3 HB3
  have L5 := LsB.new w4 a2 a3 (s.size : Int) (.slice sa (sumsOf s).length sc)
  have bA := (Below.refl w4.heap.size w4).alloc (Nat.le_refl _) (.cells #[.int .i64 a2, .int .i64 a3, .int .i64 (s.size : Int), .slice sa (sumsOf s).length sc] 67)
  obtain ⟨lb, hlb⟩ : ∃ b, b = w4.heap.size := ⟨_, rfl⟩
  rw [← hlb] at L5
  unfold lsV ofL
  simp only
  go_upto_region 7 with fail
  rw [← hlb]
  generalize w4.alloc (.cells #[.int .i64 a2, .int .i64 a3, .int .i64 (s.size : Int), .slice sa (sumsOf s).length sc] 67) = w5 at L5 bA ⊢
  have HR5 := Lib.hid (World.ownsRow_below HR4.out bA)
  have HS5 := Lib.hid (HS4.out.below bA)
  have HB5 := Lib.hid (HB4.out.trans (bA.mono HB4.out.size))
  have HL5 := Lib.hid L5
  clear L5 bA hlb HR4 HS4 HB4
  go_wp2_with fail
  go_loopw [12, 31] (fun sv iv wx => ∃ k : Nat, k ≤ cutN s.size ∧ iv = .int .i64 (k : Int) ∧ sv = .string (cutT s k) ∧ Hid (Below w5.heap.size w5 wx)) (fun _ iv _ => cutN s.size - (intOf iv).toNat)
  case atStart => exact ⟨0, Nat.zero_le _, rfl, by rw [cutT_zero], Lib.hid (Below.refl _ _)⟩
  case round =>
    obtain ⟨k, hk, rfl, rfl, HBX⟩ := hrel
    by_cases hlt : k < cutN s.size
    · have hlen := cutS_length s
      have hlt' : (k : Int) < ((cutS s).length : Int) := by omega
      have hk0 : (0 : Int) ≤ (k : Int) := by omega
      obtain ⟨c, hc⟩ : ∃ c, c = cutAt s k := ⟨_, rfl⟩
      obtain ⟨g, gc, hgv, hgl, hgc⟩ := strs_at (World.ownsRow_below HR5.out HBX.out) k (by omega)
      injection hgv with e1 e2 e3
      subst e1 e3
      rw [cutS_at s hlt, ← hc] at hgc
      obtain ⟨hc4, hc1, hc5⟩ := cut_size s hlt
      rw [← hc] at hc4 hc1 hc5
      obtain ⟨z, hz⟩ : ∃ z : Int, z = ((addN 0 c.data.toList : Nat) : Int) := ⟨_, rfl⟩
      have hzs : (sumsOf s).getD k 0 = z := by
        have := match_cut a2 a3 s hlt
        unfold matchB at this
        have h2 := (of_decide_eq_true this).2
        rw [← hc] at h2
        rw [hz, h2]
        rfl
      have HZ : Hid (((addN 0 c.data.toList : Nat) : Int) = z) := Lib.hid hz.symm
      have HC1 : Hid (1 ≤ c.size) := hc1
      have HC4 : Hid (c.size ≤ 400) := hc5
      have HCM : Hid (c.size ≤ maxLen) := by show _ ≤ _; unfold maxLen; omega
      have HKS : Hid (k < (sumsOf s).length) := by show _ < _; rw [sumsOf_length]; exact hlt
      have HK1 : Hid (IntKind.i64.wrap ((k : Int) + 1) = (k : Int) + 1) := IntWalk.i64_in _ (by unfold cutN at hlt; have := HS.out; have := HN.out; omega)
      have HSX := Lib.hid (HS5.out.below HBX.out)
      obtain ⟨sa', sc', hsv, _, hsc, _⟩ := HSX.out
      injection hsv with e1 e2 e3
      subst e1 e3
      obtain ⟨g2, hg2, hg2l, hg2c⟩ := hsc.resolve_left (by have := HKS.out; omega)
      subst hg2
      have hck := hg2c k HKS.out
      rw [hzs] at hck
      have HTX := Lib.hid (fun (W : World) (hb : Below wr.heap.size wr W) => HT.out W (HB5.out.trans ((HBX.out.trans (hb.mono HBX.out.size)).mono HB5.out.size)))
      have HLX := Lib.hid (fun (W : World) (hb : Below wr.heap.size wr W) => HL5.out.below (HBX.out.trans (hb.mono HBX.out.size)))
      have HCX := Lib.hid (fun (W : World) (hb : Below wr.heap.size wr W) => (hb.cell (p := ⟨g2, k, none⟩) hg2l).trans hck)
      have HCN : Hid (cutT s k ++ c = cutT s (k + 1)) := by show _ = _; rw [hc]; exact cutT_succ s k
      have HLT := Lib.hid hlt
      have HW : Hid (wrap64 ((k : Int) + 1) = (k : Int) + 1) := IntWalk.wrap64_in _ (by unfold cutN at hlt; have := HS.out; have := HN.out; omega)
      have HSZ4 : Hid (c.size = 400 ∨ (c.size ≠ 400 ∧ k + 1 = cutN s.size)) := by
        show _ ∨ _
        unfold cutN at hlt ⊢
        omega
      have HKL0 := Lib.hid hlen
      have hcat : ¬ (9223372036854775807 < (cutT s k).size + c.size) := by
        unfold cutT
        rw [ByteArray.size_extract]
        have := HS.out; have := HN.out
        omega
      clear hlen hlt hc hc4 hc1 hc5 hz hzs hsc hg2c hck hgl
      go_upto_region 11 with fail
      rcases HSZ4.out with h4 | ⟨h4, hk4⟩
      · have HCS := Lib.hid h4
        have HKL : Hid (k + 1 ≤ (cutS s).length ∨ True) := Lib.hid (.inr trivial)
        clear h4
        go_cut [66] (fun v wx => v = .bool false ∧ Below wr.drew.heap.size wr.drew wx)
        case first =>
          have HTB := Lib.hid (fun (W : World) (hb : Below wr.drew.heap.size wr.drew W) => HTX.out W (((Below.refl _ _).drew).trans hb))
          have HLB := Lib.hid (fun (W : World) (hb : Below wr.drew.heap.size wr.drew W) => HLX.out W (((Below.refl _ _).drew).trans hb))
          have HCE := Lib.hid (fun (W : World) (hb : Below wr.drew.heap.size wr.drew W) => HCX.out W (((Below.refl _ _).drew).trans hb))
          refine wp_region_steps (atP [fun v _ => v = (.string c),
            fun v _ => v = (.int .i64 (c.size : Int)),
            fun v _ => v = (.bool false),
            fun v _ => v = (.bool false),
            fun v _ => v = undef,
            fun v _ => v = undef,
            fun v _ => v = undef,
            fun v _ => v = undef,
            fun v _ => v = undef,
            fun v _ => v = (.bool false),
            fun v _ => v = (.bool false),
            fun v _ => v = (.string c),
            fun v _ => v = (.int .i64 (c.size : Int)),
            fun v _ => v = (.bool false),
            fun v _ => v = (.bool false),
            fun v _ => v = (.bool false),
            fun v _ => v = (.string c),
            fun v _ => v = (.int .i64 (c.size : Int)),
            fun v _ => v = (.bool false),
            fun v _ => v = (.bool false),
            fun v _ => v = (.bool false),
            fun v _ => v = (.pointer (some ⟨lb, 3, none⟩)),
            fun v _ => v = (.slice (some ⟨g2, 0, none⟩) (sumsOf s).length sc),
            fun v _ => v = (.int .i64 (k : Int)),
            fun v _ => v = (.pointer (some ⟨g2, k, none⟩)),
            fun v _ => v = (.int .u32 z),
            fun v _ => v = (.string c),
            fun v W => ∃ x, v = .slice (some ⟨x, 0, none⟩) 1 1 ∧ W.heap[x]? = some (.cells #[.string c] 9 (0, 0)),
            fun v _ => v = (.int .u32 z),
            fun v _ => v = (.bool false),
            fun v _ => v = (.bool false)]) (fun w w' => Below w.heap.size w w') (by kernel_rfl) (by kernel_rfl) (by kernel_rfl) (Below.refl _ _) (fun i v w w' _ h1 h2 => atP_keep (R := fun w w' => Below w.heap.size w w') (atK1 (fun _ _ _ h _ => h) (atK1 (fun _ _ _ h _ => h) (atK1 (fun _ _ _ h _ => h) (atK1 (fun _ _ _ h _ => h) (atK1 (fun _ _ _ h _ => h) (atK1 (fun _ _ _ h _ => h) (atK1 (fun _ _ _ h _ => h) (atK1 (fun _ _ _ h _ => h) (atK1 (fun _ _ _ h _ => h) (atK1 (fun _ _ _ h _ => h) (atK1 (fun _ _ _ h _ => h) (atK1 (fun _ _ _ h _ => h) (atK1 (fun _ _ _ h _ => h) (atK1 (fun _ _ _ h _ => h) (atK1 (fun _ _ _ h _ => h) (atK1 (fun _ _ _ h _ => h) (atK1 (fun _ _ _ h _ => h) (atK1 (fun _ _ _ h _ => h) (atK1 (fun _ _ _ h _ => h) (atK1 (fun _ _ _ h _ => h) (atK1 (fun _ _ _ h _ => h) (atK1 (fun _ _ _ h _ => h) (atK1 (fun _ _ _ h _ => h) (atK1 (fun _ _ _ h _ => h) (atK1 (fun _ _ _ h _ => h) (atK1 (fun _ _ _ h _ => h) (atK1 (fun _ _ _ h _ => h) (atK1 (fun v w w' h hr => h.elim fun x hx => ⟨x, hx.1, (hr.block x (lt_of_block hx.2)).trans hx.2⟩) (atK1 (fun _ _ _ h _ => h) (atK1 (fun _ _ _ h _ => h) (atK1 (fun _ _ _ h _ => h) (atK0)))))))))))))))))))))))))))))))) i h1 h2) (fun u v w h1 h2 => h1.trans (h2.mono h1.size)) ?_ ?_
          · intro j o ho x W1 hR hF
            match j, ho with
            | 0, ho =>
              obtain rfl := Option.some.inj ho
              exact gstep_move rfl (wanted0 rfl) _ rfl _ (eval_of 14 _ (by kernel_rfl) rfl) ⟨_, rfl, rfl, Below.refl _ _⟩
            | 1, ho =>
              obtain rfl := Option.some.inj ho
              exact gstep_lenS rfl (wanted0 rfl) _ rfl (eval_at 36 0 _ (by kernel_rfl) (show 36 < 126 by decide) (hF 0 (by kernel_rfl))) ⟨_, rfl, rfl, Below.refl _ _⟩
            | 2, ho =>
              obtain rfl := Option.some.inj ho
              exact gstep_bin rfl (wanted0 rfl) _ _ _ _ _ rfl _ _ (eval_at 37 1 _ (by kernel_rfl) (show 37 < 126 by decide) (hF 1 (by kernel_rfl))) rfl _ (run_neI W1 _ _ _ (by simp [HCS.out]) _ _) ⟨_, rfl, rfl, Below.refl _ _⟩
            | 3, ho =>
              obtain rfl := Option.some.inj ho
              exact gstep_move rfl (wanted0 rfl) _ rfl _ (eval_at 38 2 _ (by kernel_rfl) (show 38 < 126 by decide) (hF 2 (by kernel_rfl))) ⟨_, rfl, rfl, Below.refl _ _⟩
            | 4, ho =>
              obtain rfl := Option.some.inj ho
              exact gstep_skip rfl (wanted_at 39 3 true _ false rfl (by kernel_rfl) (show 39 < 126 by decide) (hF 3 (by kernel_rfl)) rfl) ⟨_, rfl, rfl, Below.refl _ _⟩
            | 5, ho =>
              obtain rfl := Option.some.inj ho
              exact gstep_skip rfl (wanted_at 39 3 true _ false rfl (by kernel_rfl) (show 39 < 126 by decide) (hF 3 (by kernel_rfl)) rfl) ⟨_, rfl, rfl, Below.refl _ _⟩
            | 6, ho =>
              obtain rfl := Option.some.inj ho
              exact gstep_skip rfl (wanted_at 39 3 true _ false rfl (by kernel_rfl) (show 39 < 126 by decide) (hF 3 (by kernel_rfl)) rfl) ⟨_, rfl, rfl, Below.refl _ _⟩
            | 7, ho =>
              obtain rfl := Option.some.inj ho
              exact gstep_skip rfl (wanted_at 39 3 true _ false rfl (by kernel_rfl) (show 39 < 126 by decide) (hF 3 (by kernel_rfl)) rfl) ⟨_, rfl, rfl, Below.refl _ _⟩
            | 8, ho =>
              obtain rfl := Option.some.inj ho
              exact gstep_skip rfl (wanted_at 39 3 true _ false rfl (by kernel_rfl) (show 39 < 126 by decide) (hF 3 (by kernel_rfl)) rfl) ⟨_, rfl, rfl, Below.refl _ _⟩
            | 9, ho =>
              obtain rfl := Option.some.inj ho
              exact gstep_pick rfl (wanted0 rfl) _ _ _ rfl false (eval_at 39 3 _ (by kernel_rfl) (show 39 < 126 by decide) (hF 3 (by kernel_rfl))) _ (by rw [if_neg (by decide)]; exact rfl) ⟨_, rfl, rfl, Below.refl _ _⟩
            | 10, ho =>
              obtain rfl := Option.some.inj ho
              exact gstep_move rfl (wanted0 rfl) _ rfl _ (eval_at 45 9 _ (by kernel_rfl) (show 45 < 126 by decide) (hF 9 (by kernel_rfl))) ⟨_, rfl, rfl, Below.refl _ _⟩
            | 11, ho =>
              obtain rfl := Option.some.inj ho
              exact gstep_move rfl (wanted_at 46 10 false _ true rfl (by kernel_rfl) (show 46 < 126 by decide) (hF 10 (by kernel_rfl)) rfl) _ rfl _ (eval_of 14 _ (by kernel_rfl) rfl) ⟨_, rfl, rfl, Below.refl _ _⟩
            | 12, ho =>
              obtain rfl := Option.some.inj ho
              exact gstep_lenS rfl (wanted_at 46 10 false _ true rfl (by kernel_rfl) (show 46 < 126 by decide) (hF 10 (by kernel_rfl)) rfl) _ rfl (eval_at 47 11 _ (by kernel_rfl) (show 47 < 126 by decide) (hF 11 (by kernel_rfl))) ⟨_, rfl, rfl, Below.refl _ _⟩
            | 13, ho =>
              obtain rfl := Option.some.inj ho
              exact gstep_bin rfl (wanted_at 46 10 false _ true rfl (by kernel_rfl) (show 46 < 126 by decide) (hF 10 (by kernel_rfl)) rfl) _ _ _ _ _ rfl _ _ (eval_at 48 12 _ (by kernel_rfl) (show 48 < 126 by decide) (hF 12 (by kernel_rfl))) rfl _ (run_eqI W1 _ _ _ (beq_eq_false_iff_ne.2 (by have := HC1.out; omega)) _ _) ⟨_, rfl, rfl, Below.refl _ _⟩
            | 14, ho =>
              obtain rfl := Option.some.inj ho
              exact gstep_pick rfl (wanted0 rfl) _ _ _ rfl false (eval_at 46 10 _ (by kernel_rfl) (show 46 < 126 by decide) (hF 10 (by kernel_rfl))) _ (by rw [if_neg (by decide)]; exact (eval_at 49 13 _ (by kernel_rfl) (show 49 < 126 by decide) (hF 13 (by kernel_rfl)))) ⟨_, rfl, rfl, Below.refl _ _⟩
            | 15, ho =>
              obtain rfl := Option.some.inj ho
              exact gstep_move rfl (wanted0 rfl) _ rfl _ (eval_at 50 14 _ (by kernel_rfl) (show 50 < 126 by decide) (hF 14 (by kernel_rfl))) ⟨_, rfl, rfl, Below.refl _ _⟩
            | 16, ho =>
              obtain rfl := Option.some.inj ho
              exact gstep_move rfl (wanted_at 51 15 false _ true rfl (by kernel_rfl) (show 51 < 126 by decide) (hF 15 (by kernel_rfl)) rfl) _ rfl _ (eval_of 14 _ (by kernel_rfl) rfl) ⟨_, rfl, rfl, Below.refl _ _⟩
            | 17, ho =>
              obtain rfl := Option.some.inj ho
              exact gstep_lenS rfl (wanted_at 51 15 false _ true rfl (by kernel_rfl) (show 51 < 126 by decide) (hF 15 (by kernel_rfl)) rfl) _ rfl (eval_at 52 16 _ (by kernel_rfl) (show 52 < 126 by decide) (hF 16 (by kernel_rfl))) ⟨_, rfl, rfl, Below.refl _ _⟩
            | 18, ho =>
              obtain rfl := Option.some.inj ho
              exact gstep_bin rfl (wanted_at 51 15 false _ true rfl (by kernel_rfl) (show 51 < 126 by decide) (hF 15 (by kernel_rfl)) rfl) _ _ _ _ _ rfl _ _ (eval_at 53 17 _ (by kernel_rfl) (show 53 < 126 by decide) (hF 17 (by kernel_rfl))) rfl _ (run_gtI W1 _ _ _ (decide_eq_false (by have := HC4.out; omega)) _ _) ⟨_, rfl, rfl, Below.refl _ _⟩
            | 19, ho =>
              obtain rfl := Option.some.inj ho
              exact gstep_pick rfl (wanted0 rfl) _ _ _ rfl false (eval_at 51 15 _ (by kernel_rfl) (show 51 < 126 by decide) (hF 15 (by kernel_rfl))) _ (by rw [if_neg (by decide)]; exact (eval_at 54 18 _ (by kernel_rfl) (show 54 < 126 by decide) (hF 18 (by kernel_rfl)))) ⟨_, rfl, rfl, Below.refl _ _⟩
            | 20, ho =>
              obtain rfl := Option.some.inj ho
              exact gstep_move rfl (wanted0 rfl) _ rfl _ (eval_at 55 19 _ (by kernel_rfl) (show 55 < 126 by decide) (hF 19 (by kernel_rfl))) ⟨_, rfl, rfl, Below.refl _ _⟩
            | 21, ho =>
              obtain rfl := Option.some.inj ho
              exact gstep_field rfl (wanted_at 56 20 false _ true rfl (by kernel_rfl) (show 56 < 126 by decide) (hF 20 (by kernel_rfl)) rfl) _ _ _ rfl _ (eval_of 11 _ (by kernel_rfl) rfl) _ ((by go_simp)) ⟨_, rfl, rfl, Below.refl _ _⟩
            | 22, ho =>
              obtain rfl := Option.some.inj ho
              exact gstep_load rfl (wanted_at 56 20 false _ true rfl (by kernel_rfl) (show 56 < 126 by decide) (hF 20 (by kernel_rfl)) rfl) _ _ rfl _ (eval_at 57 21 _ (by kernel_rfl) (show 57 < 126 by decide) (hF 21 (by kernel_rfl))) _ (run_loadSm W1 _ _ _ _ (HLB.out W1 hR).cells.1.2.2.2) ⟨_, rfl, rfl, Below.refl _ _⟩
            | 23, ho =>
              obtain rfl := Option.some.inj ho
              exact gstep_move rfl (wanted_at 56 20 false _ true rfl (by kernel_rfl) (show 56 < 126 by decide) (hF 20 (by kernel_rfl)) rfl) _ rfl _ (eval_of 13 _ (by kernel_rfl) rfl) ⟨_, rfl, rfl, Below.refl _ _⟩
            | 24, ho =>
              obtain rfl := Option.some.inj ho
              exact gstep_index rfl (wanted_at 56 20 false _ true rfl (by kernel_rfl) (show 56 < 126 by decide) (hF 20 (by kernel_rfl)) rfl) _ _ _ rfl _ _ (eval_at 58 22 _ (by kernel_rfl) (show 58 < 126 by decide) (hF 22 (by kernel_rfl))) (eval_at 59 23 _ (by kernel_rfl) (show 59 < 126 by decide) (hF 23 (by kernel_rfl))) _ (run_ixSm W1 _ _ _ _ HKS.out) ⟨_, rfl, rfl, Below.refl _ _⟩
            | 25, ho =>
              obtain rfl := Option.some.inj ho
              exact gstep_load rfl (wanted_at 56 20 false _ true rfl (by kernel_rfl) (show 56 < 126 by decide) (hF 20 (by kernel_rfl)) rfl) _ _ rfl _ (eval_at 60 24 _ (by kernel_rfl) (show 60 < 126 by decide) (hF 24 (by kernel_rfl))) _ (run_loadU W1 _ _ (HCE.out W1 hR)) ⟨_, rfl, rfl, Below.refl _ _⟩
            | 26, ho =>
              obtain rfl := Option.some.inj ho
              exact gstep_move rfl (wanted_at 56 20 false _ true rfl (by kernel_rfl) (show 56 < 126 by decide) (hF 20 (by kernel_rfl)) rfl) _ rfl _ (eval_of 14 _ (by kernel_rfl) rfl) ⟨_, rfl, rfl, Below.refl _ _⟩
            | 27, ho =>
              obtain rfl := Option.some.inj ho
              exact gstep_rowS rfl (wanted_at 56 20 false _ true rfl (by kernel_rfl) (show 56 < 126 by decide) (hF 20 (by kernel_rfl)) rfl) _ rfl _ (eval_at 62 26 _ (by kernel_rfl) (show 62 < 126 by decide) (hF 26 (by kernel_rfl))) ⟨_, rfl, ⟨W1.heap.size, rfl, heap_alloc_new W1 _⟩, (Below.refl _ W1).alloc (Nat.le_refl _) _⟩
            | 28, ho =>
              obtain rfl := Option.some.inj ho
              have h27 := hF 27 (by kernel_rfl)
              obtain ⟨gx, hx1, hx2⟩ := h27
              refine gstep_call rfl (wanted_at 56 20 false _ true rfl (by kernel_rfl) (show 56 < 126 by decide) (hF 20 (by kernel_rfl)) rfl) _ _ _ rfl _ (eval_at 63 27 _ (by kernel_rfl) (show 63 < 126 by decide) hx1) (call_of W1 _) ?_
              refine (sumof_at (HTB.out W1 hR) hx2 HCM.out).mono ?_
              rintro e w2 ⟨rfl, hb⟩
              exact ⟨_, rfl, _, rfl, (by rw [HZ.out]; rfl), hb⟩
            | 29, ho =>
              obtain rfl := Option.some.inj ho
              exact gstep_bin rfl (wanted_at 56 20 false _ true rfl (by kernel_rfl) (show 56 < 126 by decide) (hF 20 (by kernel_rfl)) rfl) _ _ _ _ _ rfl _ _ (eval_at 61 25 _ (by kernel_rfl) (show 61 < 126 by decide) (hF 25 (by kernel_rfl))) (eval_at 64 28 _ (by kernel_rfl) (show 64 < 126 by decide) (hF 28 (by kernel_rfl))) _ (run_neU W1 _ _ _ (by simp) _ _) ⟨_, rfl, rfl, Below.refl _ _⟩
            | 30, ho =>
              obtain rfl := Option.some.inj ho
              exact gstep_pick rfl (wanted0 rfl) _ _ _ rfl false (eval_at 56 20 _ (by kernel_rfl) (show 56 < 126 by decide) (hF 20 (by kernel_rfl))) _ (by rw [if_neg (by decide)]; exact (eval_at 65 29 _ (by kernel_rfl) (show 65 < 126 by decide) (hF 29 (by kernel_rfl)))) ⟨_, rfl, rfl, Below.refl _ _⟩
            | n + 31, ho => simp at ho
          · intro x w5 hR hF
            have h30 := hF 30 (by decide)
            simp only [putAll, Act.put, List.setIfInBounds_toArray, List.set_cons_succ, List.set_cons_zero]
            generalize x 30 = v30 at h30 ⊢
            have h30' : v30 = .bool false := h30
            subst h30'
            have B5 := hR
            clear hF h30
            go_wp2_with fail
            go_meet
            exact ⟨rfl, B5⟩
        case rest =>
          obtain ⟨rfl, hb5⟩ := hcut
          have HBX2 := Lib.hid (HBX.out.trans ((((Below.refl _ wr).drew).trans hb5).mono HBX.out.size))
          go_wp2_with fail
          rw [HW.out, HCN.out]
          refine ⟨⟨k + 1, (by have := HLT.out; omega), by simp, rfl, HBX2⟩, ?_⟩
          have := HLT.out
          simp [intOf]
          omega
      · have HCS := Lib.hid h4
        have HKL : Hid ((cutS s).length ≤ k + 1) := by show _ ≤ _; rw [cutS_length]; omega
        clear h4
        go_cut [66] (fun v wx => v = .bool false ∧ Below wr.drew.heap.size wr.drew wx)
        case first =>
          have HTB := Lib.hid (fun (W : World) (hb : Below wr.drew.heap.size wr.drew W) => HTX.out W (((Below.refl _ _).drew).trans hb))
          have HLB := Lib.hid (fun (W : World) (hb : Below wr.drew.heap.size wr.drew W) => HLX.out W (((Below.refl _ _).drew).trans hb))
          have HCE := Lib.hid (fun (W : World) (hb : Below wr.drew.heap.size wr.drew W) => HCX.out W (((Below.refl _ _).drew).trans hb))
          refine wp_region_steps (atP [fun v _ => v = (.string c),
            fun v _ => v = (.int .i64 (c.size : Int)),
            fun v _ => v = (.bool true),
            fun v _ => v = (.bool true),
            fun v _ => v = (.int .i64 (k : Int)),
            fun v _ => v = (.int .i64 ((k : Int) + 1)),
            fun v _ => v = (.slice (some ⟨g, 0, none⟩) (cutS s).length vc),
            fun v _ => v = (.int .i64 ((cutS s).length : Int)),
            fun v _ => v = (.bool false),
            fun v _ => v = (.bool false),
            fun v _ => v = (.bool false),
            fun v _ => v = (.string c),
            fun v _ => v = (.int .i64 (c.size : Int)),
            fun v _ => v = (.bool false),
            fun v _ => v = (.bool false),
            fun v _ => v = (.bool false),
            fun v _ => v = (.string c),
            fun v _ => v = (.int .i64 (c.size : Int)),
            fun v _ => v = (.bool false),
            fun v _ => v = (.bool false),
            fun v _ => v = (.bool false),
            fun v _ => v = (.pointer (some ⟨lb, 3, none⟩)),
            fun v _ => v = (.slice (some ⟨g2, 0, none⟩) (sumsOf s).length sc),
            fun v _ => v = (.int .i64 (k : Int)),
            fun v _ => v = (.pointer (some ⟨g2, k, none⟩)),
            fun v _ => v = (.int .u32 z),
            fun v _ => v = (.string c),
            fun v W => ∃ x, v = .slice (some ⟨x, 0, none⟩) 1 1 ∧ W.heap[x]? = some (.cells #[.string c] 9 (0, 0)),
            fun v _ => v = (.int .u32 z),
            fun v _ => v = (.bool false),
            fun v _ => v = (.bool false)]) (fun w w' => Below w.heap.size w w') (by kernel_rfl) (by kernel_rfl) (by kernel_rfl) (Below.refl _ _) (fun i v w w' _ h1 h2 => atP_keep (R := fun w w' => Below w.heap.size w w') (atK1 (fun _ _ _ h _ => h) (atK1 (fun _ _ _ h _ => h) (atK1 (fun _ _ _ h _ => h) (atK1 (fun _ _ _ h _ => h) (atK1 (fun _ _ _ h _ => h) (atK1 (fun _ _ _ h _ => h) (atK1 (fun _ _ _ h _ => h) (atK1 (fun _ _ _ h _ => h) (atK1 (fun _ _ _ h _ => h) (atK1 (fun _ _ _ h _ => h) (atK1 (fun _ _ _ h _ => h) (atK1 (fun _ _ _ h _ => h) (atK1 (fun _ _ _ h _ => h) (atK1 (fun _ _ _ h _ => h) (atK1 (fun _ _ _ h _ => h) (atK1 (fun _ _ _ h _ => h) (atK1 (fun _ _ _ h _ => h) (atK1 (fun _ _ _ h _ => h) (atK1 (fun _ _ _ h _ => h) (atK1 (fun _ _ _ h _ => h) (atK1 (fun _ _ _ h _ => h) (atK1 (fun _ _ _ h _ => h) (atK1 (fun _ _ _ h _ => h) (atK1 (fun _ _ _ h _ => h) (atK1 (fun _ _ _ h _ => h) (atK1 (fun _ _ _ h _ => h) (atK1 (fun _ _ _ h _ => h) (atK1 (fun v w w' h hr => h.elim fun x hx => ⟨x, hx.1, (hr.block x (lt_of_block hx.2)).trans hx.2⟩) (atK1 (fun _ _ _ h _ => h) (atK1 (fun _ _ _ h _ => h) (atK1 (fun _ _ _ h _ => h) (atK0)))))))))))))))))))))))))))))))) i h1 h2) (fun u v w h1 h2 => h1.trans (h2.mono h1.size)) ?_ ?_
          · intro j o ho x W1 hR hF
            match j, ho with
            | 0, ho =>
              obtain rfl := Option.some.inj ho
              exact gstep_move rfl (wanted0 rfl) _ rfl _ (eval_of 14 _ (by kernel_rfl) rfl) ⟨_, rfl, rfl, Below.refl _ _⟩
            | 1, ho =>
              obtain rfl := Option.some.inj ho
              exact gstep_lenS rfl (wanted0 rfl) _ rfl (eval_at 36 0 _ (by kernel_rfl) (show 36 < 126 by decide) (hF 0 (by kernel_rfl))) ⟨_, rfl, rfl, Below.refl _ _⟩
            | 2, ho =>
              obtain rfl := Option.some.inj ho
              exact gstep_bin rfl (wanted0 rfl) _ _ _ _ _ rfl _ _ (eval_at 37 1 _ (by kernel_rfl) (show 37 < 126 by decide) (hF 1 (by kernel_rfl))) rfl _ (run_neI W1 _ _ _ (by have := HCS.out; simp; omega) _ _) ⟨_, rfl, rfl, Below.refl _ _⟩
            | 3, ho =>
              obtain rfl := Option.some.inj ho
              exact gstep_move rfl (wanted0 rfl) _ rfl _ (eval_at 38 2 _ (by kernel_rfl) (show 38 < 126 by decide) (hF 2 (by kernel_rfl))) ⟨_, rfl, rfl, Below.refl _ _⟩
            | 4, ho =>
              obtain rfl := Option.some.inj ho
              exact gstep_move rfl (wanted_at 39 3 true _ true rfl (by kernel_rfl) (show 39 < 126 by decide) (hF 3 (by kernel_rfl)) rfl) _ rfl _ (eval_of 13 _ (by kernel_rfl) rfl) ⟨_, rfl, rfl, Below.refl _ _⟩
            | 5, ho =>
              obtain rfl := Option.some.inj ho
              exact gstep_bin rfl (wanted_at 39 3 true _ true rfl (by kernel_rfl) (show 39 < 126 by decide) (hF 3 (by kernel_rfl)) rfl) _ _ _ _ _ rfl _ _ (eval_at 40 4 _ (by kernel_rfl) (show 40 < 126 by decide) (hF 4 (by kernel_rfl))) rfl _ (run_addI W1 _ _ _ HK1.out _ _) ⟨_, rfl, rfl, Below.refl _ _⟩
            | 6, ho =>
              obtain rfl := Option.some.inj ho
              exact gstep_move rfl (wanted_at 39 3 true _ true rfl (by kernel_rfl) (show 39 < 126 by decide) (hF 3 (by kernel_rfl)) rfl) _ rfl _ (eval_of 10 _ (by kernel_rfl) rfl) ⟨_, rfl, rfl, Below.refl _ _⟩
            | 7, ho =>
              obtain rfl := Option.some.inj ho
              exact gstep_lenLSs rfl (wanted_at 39 3 true _ true rfl (by kernel_rfl) (show 39 < 126 by decide) (hF 3 (by kernel_rfl)) rfl) _ rfl _ _ _ (eval_at 42 6 _ (by kernel_rfl) (show 42 < 126 by decide) (hF 6 (by kernel_rfl))) ⟨_, rfl, rfl, Below.refl _ _⟩
            | 8, ho =>
              obtain rfl := Option.some.inj ho
              exact gstep_bin rfl (wanted_at 39 3 true _ true rfl (by kernel_rfl) (show 39 < 126 by decide) (hF 3 (by kernel_rfl)) rfl) _ _ _ _ _ rfl _ _ (eval_at 41 5 _ (by kernel_rfl) (show 41 < 126 by decide) (hF 5 (by kernel_rfl))) (eval_at 43 7 _ (by kernel_rfl) (show 43 < 126 by decide) (hF 7 (by kernel_rfl))) _ (run_ltI W1 _ _ _ (decide_eq_false (by have := HKL.out; omega)) _ _) ⟨_, rfl, rfl, Below.refl _ _⟩
            | 9, ho =>
              obtain rfl := Option.some.inj ho
              exact gstep_pick rfl (wanted0 rfl) _ _ _ rfl true (eval_at 39 3 _ (by kernel_rfl) (show 39 < 126 by decide) (hF 3 (by kernel_rfl))) _ (by rw [if_pos rfl]; exact (eval_at 44 8 _ (by kernel_rfl) (show 44 < 126 by decide) (hF 8 (by kernel_rfl)))) ⟨_, rfl, rfl, Below.refl _ _⟩
            | 10, ho =>
              obtain rfl := Option.some.inj ho
              exact gstep_move rfl (wanted0 rfl) _ rfl _ (eval_at 45 9 _ (by kernel_rfl) (show 45 < 126 by decide) (hF 9 (by kernel_rfl))) ⟨_, rfl, rfl, Below.refl _ _⟩
            | 11, ho =>
              obtain rfl := Option.some.inj ho
              exact gstep_move rfl (wanted_at 46 10 false _ true rfl (by kernel_rfl) (show 46 < 126 by decide) (hF 10 (by kernel_rfl)) rfl) _ rfl _ (eval_of 14 _ (by kernel_rfl) rfl) ⟨_, rfl, rfl, Below.refl _ _⟩
            | 12, ho =>
              obtain rfl := Option.some.inj ho
              exact gstep_lenS rfl (wanted_at 46 10 false _ true rfl (by kernel_rfl) (show 46 < 126 by decide) (hF 10 (by kernel_rfl)) rfl) _ rfl (eval_at 47 11 _ (by kernel_rfl) (show 47 < 126 by decide) (hF 11 (by kernel_rfl))) ⟨_, rfl, rfl, Below.refl _ _⟩
            | 13, ho =>
              obtain rfl := Option.some.inj ho
              exact gstep_bin rfl (wanted_at 46 10 false _ true rfl (by kernel_rfl) (show 46 < 126 by decide) (hF 10 (by kernel_rfl)) rfl) _ _ _ _ _ rfl _ _ (eval_at 48 12 _ (by kernel_rfl) (show 48 < 126 by decide) (hF 12 (by kernel_rfl))) rfl _ (run_eqI W1 _ _ _ (beq_eq_false_iff_ne.2 (by have := HC1.out; omega)) _ _) ⟨_, rfl, rfl, Below.refl _ _⟩
            | 14, ho =>
              obtain rfl := Option.some.inj ho
              exact gstep_pick rfl (wanted0 rfl) _ _ _ rfl false (eval_at 46 10 _ (by kernel_rfl) (show 46 < 126 by decide) (hF 10 (by kernel_rfl))) _ (by rw [if_neg (by decide)]; exact (eval_at 49 13 _ (by kernel_rfl) (show 49 < 126 by decide) (hF 13 (by kernel_rfl)))) ⟨_, rfl, rfl, Below.refl _ _⟩
            | 15, ho =>
              obtain rfl := Option.some.inj ho
              exact gstep_move rfl (wanted0 rfl) _ rfl _ (eval_at 50 14 _ (by kernel_rfl) (show 50 < 126 by decide) (hF 14 (by kernel_rfl))) ⟨_, rfl, rfl, Below.refl _ _⟩
            | 16, ho =>
              obtain rfl := Option.some.inj ho
              exact gstep_move rfl (wanted_at 51 15 false _ true rfl (by kernel_rfl) (show 51 < 126 by decide) (hF 15 (by kernel_rfl)) rfl) _ rfl _ (eval_of 14 _ (by kernel_rfl) rfl) ⟨_, rfl, rfl, Below.refl _ _⟩
            | 17, ho =>
              obtain rfl := Option.some.inj ho
              exact gstep_lenS rfl (wanted_at 51 15 false _ true rfl (by kernel_rfl) (show 51 < 126 by decide) (hF 15 (by kernel_rfl)) rfl) _ rfl (eval_at 52 16 _ (by kernel_rfl) (show 52 < 126 by decide) (hF 16 (by kernel_rfl))) ⟨_, rfl, rfl, Below.refl _ _⟩
            | 18, ho =>
              obtain rfl := Option.some.inj ho
              exact gstep_bin rfl (wanted_at 51 15 false _ true rfl (by kernel_rfl) (show 51 < 126 by decide) (hF 15 (by kernel_rfl)) rfl) _ _ _ _ _ rfl _ _ (eval_at 53 17 _ (by kernel_rfl) (show 53 < 126 by decide) (hF 17 (by kernel_rfl))) rfl _ (run_gtI W1 _ _ _ (decide_eq_false (by have := HC4.out; omega)) _ _) ⟨_, rfl, rfl, Below.refl _ _⟩
            | 19, ho =>
              obtain rfl := Option.some.inj ho
              exact gstep_pick rfl (wanted0 rfl) _ _ _ rfl false (eval_at 51 15 _ (by kernel_rfl) (show 51 < 126 by decide) (hF 15 (by kernel_rfl))) _ (by rw [if_neg (by decide)]; exact (eval_at 54 18 _ (by kernel_rfl) (show 54 < 126 by decide) (hF 18 (by kernel_rfl)))) ⟨_, rfl, rfl, Below.refl _ _⟩
            | 20, ho =>
              obtain rfl := Option.some.inj ho
              exact gstep_move rfl (wanted0 rfl) _ rfl _ (eval_at 55 19 _ (by kernel_rfl) (show 55 < 126 by decide) (hF 19 (by kernel_rfl))) ⟨_, rfl, rfl, Below.refl _ _⟩
            | 21, ho =>
              obtain rfl := Option.some.inj ho
              exact gstep_field rfl (wanted_at 56 20 false _ true rfl (by kernel_rfl) (show 56 < 126 by decide) (hF 20 (by kernel_rfl)) rfl) _ _ _ rfl _ (eval_of 11 _ (by kernel_rfl) rfl) _ ((by go_simp)) ⟨_, rfl, rfl, Below.refl _ _⟩
            | 22, ho =>
              obtain rfl := Option.some.inj ho
              exact gstep_load rfl (wanted_at 56 20 false _ true rfl (by kernel_rfl) (show 56 < 126 by decide) (hF 20 (by kernel_rfl)) rfl) _ _ rfl _ (eval_at 57 21 _ (by kernel_rfl) (show 57 < 126 by decide) (hF 21 (by kernel_rfl))) _ (run_loadSm W1 _ _ _ _ (HLB.out W1 hR).cells.1.2.2.2) ⟨_, rfl, rfl, Below.refl _ _⟩
            | 23, ho =>
              obtain rfl := Option.some.inj ho
              exact gstep_move rfl (wanted_at 56 20 false _ true rfl (by kernel_rfl) (show 56 < 126 by decide) (hF 20 (by kernel_rfl)) rfl) _ rfl _ (eval_of 13 _ (by kernel_rfl) rfl) ⟨_, rfl, rfl, Below.refl _ _⟩
            | 24, ho =>
              obtain rfl := Option.some.inj ho
              exact gstep_index rfl (wanted_at 56 20 false _ true rfl (by kernel_rfl) (show 56 < 126 by decide) (hF 20 (by kernel_rfl)) rfl) _ _ _ rfl _ _ (eval_at 58 22 _ (by kernel_rfl) (show 58 < 126 by decide) (hF 22 (by kernel_rfl))) (eval_at 59 23 _ (by kernel_rfl) (show 59 < 126 by decide) (hF 23 (by kernel_rfl))) _ (run_ixSm W1 _ _ _ _ HKS.out) ⟨_, rfl, rfl, Below.refl _ _⟩
            | 25, ho =>
              obtain rfl := Option.some.inj ho
              exact gstep_load rfl (wanted_at 56 20 false _ true rfl (by kernel_rfl) (show 56 < 126 by decide) (hF 20 (by kernel_rfl)) rfl) _ _ rfl _ (eval_at 60 24 _ (by kernel_rfl) (show 60 < 126 by decide) (hF 24 (by kernel_rfl))) _ (run_loadU W1 _ _ (HCE.out W1 hR)) ⟨_, rfl, rfl, Below.refl _ _⟩
            | 26, ho =>
              obtain rfl := Option.some.inj ho
              exact gstep_move rfl (wanted_at 56 20 false _ true rfl (by kernel_rfl) (show 56 < 126 by decide) (hF 20 (by kernel_rfl)) rfl) _ rfl _ (eval_of 14 _ (by kernel_rfl) rfl) ⟨_, rfl, rfl, Below.refl _ _⟩
            | 27, ho =>
              obtain rfl := Option.some.inj ho
              exact gstep_rowS rfl (wanted_at 56 20 false _ true rfl (by kernel_rfl) (show 56 < 126 by decide) (hF 20 (by kernel_rfl)) rfl) _ rfl _ (eval_at 62 26 _ (by kernel_rfl) (show 62 < 126 by decide) (hF 26 (by kernel_rfl))) ⟨_, rfl, ⟨W1.heap.size, rfl, heap_alloc_new W1 _⟩, (Below.refl _ W1).alloc (Nat.le_refl _) _⟩
            | 28, ho =>
              obtain rfl := Option.some.inj ho
              have h27 := hF 27 (by kernel_rfl)
              obtain ⟨gx, hx1, hx2⟩ := h27
              refine gstep_call rfl (wanted_at 56 20 false _ true rfl (by kernel_rfl) (show 56 < 126 by decide) (hF 20 (by kernel_rfl)) rfl) _ _ _ rfl _ (eval_at 63 27 _ (by kernel_rfl) (show 63 < 126 by decide) hx1) (call_of W1 _) ?_
              refine (sumof_at (HTB.out W1 hR) hx2 HCM.out).mono ?_
              rintro e w2 ⟨rfl, hb⟩
              exact ⟨_, rfl, _, rfl, (by rw [HZ.out]; rfl), hb⟩
            | 29, ho =>
              obtain rfl := Option.some.inj ho
              exact gstep_bin rfl (wanted_at 56 20 false _ true rfl (by kernel_rfl) (show 56 < 126 by decide) (hF 20 (by kernel_rfl)) rfl) _ _ _ _ _ rfl _ _ (eval_at 61 25 _ (by kernel_rfl) (show 61 < 126 by decide) (hF 25 (by kernel_rfl))) (eval_at 64 28 _ (by kernel_rfl) (show 64 < 126 by decide) (hF 28 (by kernel_rfl))) _ (run_neU W1 _ _ _ (by simp) _ _) ⟨_, rfl, rfl, Below.refl _ _⟩
            | 30, ho =>
              obtain rfl := Option.some.inj ho
              exact gstep_pick rfl (wanted0 rfl) _ _ _ rfl false (eval_at 56 20 _ (by kernel_rfl) (show 56 < 126 by decide) (hF 20 (by kernel_rfl))) _ (by rw [if_neg (by decide)]; exact (eval_at 65 29 _ (by kernel_rfl) (show 65 < 126 by decide) (hF 29 (by kernel_rfl)))) ⟨_, rfl, rfl, Below.refl _ _⟩
            | n + 31, ho => simp at ho
          · intro x w5 hR hF
            have h30 := hF 30 (by decide)
            simp only [putAll, Act.put, List.setIfInBounds_toArray, List.set_cons_succ, List.set_cons_zero]
            generalize x 30 = v30 at h30 ⊢
            have h30' : v30 = .bool false := h30
            subst h30'
            have B5 := hR
            clear hF h30
            go_wp2_with fail
            go_meet
            exact ⟨rfl, B5⟩
        case rest =>
          obtain ⟨rfl, hb5⟩ := hcut
          have HBX2 := Lib.hid (HBX.out.trans ((((Below.refl _ wr).drew).trans hb5).mono HBX.out.size))
          go_wp2_with fail
          rw [HW.out, HCN.out]
          refine ⟨⟨k + 1, (by have := HLT.out; omega), by simp, rfl, HBX2⟩, ?_⟩
          have := HLT.out
          simp [intOf]
          omega
    · obtain rfl : k = cutN s.size := by omega
      rw [cutT_all]
      have LX := HL5.out.below HBX.out
      obtain ⟨⟨l0, l1, l2, l3⟩, _⟩ := LX.cells
      have hp1 : IntKind.i64.wrap ((s.size : Int) + 1) = (s.size : Int) + 1 := IntWalk.i64_in _ (by have := HS.out; have := HN.out; omega)
      have HLX := Lib.hid LX
      have hge : ¬ (cutN s.size < (cutS s).length) := by rw [cutS_length]; omega
      clear LX hlt hk
      have O0 := LsB.new wr a2 a3 (s.size : Int) (.slice sa (sumsOf s).length sc)
      have bO := (Below.refl wr.heap.size wr).alloc (Nat.le_refl _) (.cells #[.int .i64 a2, .int .i64 a3, .int .i64 (s.size : Int), .slice sa (sumsOf s).length sc] 67)
      obtain ⟨ob, hob⟩ : ∃ b, b = wr.heap.size := ⟨_, rfl⟩
      rw [← hob] at O0
      go_upto_region 16 with fail
      rw [← hob]
      generalize wr.alloc (.cells #[.int .i64 a2, .int .i64 a3, .int .i64 (s.size : Int), .slice sa (sumsOf s).length sc] 67) = w6 at O0 bO ⊢
      obtain ⟨⟨o0, o1, o2, o3⟩, f0, f1, f2, f3⟩ := O0.cells
      have HO0 := Lib.hid O0
      have HBO := Lib.hid bO
      have HOB0 : Hid (wr.heap.size ≤ ob) := by show _ ≤ _; omega
      clear O0 bO hob
      go_upto_region 17 with fail
      have B6 := HB5.out.trans ((HBX.out.trans (HBO.out.mono HBX.out.size)).mono HB5.out.size)
      have hlow : wr.heap.size ≤ ob := HOB0.out
      have hwr : w.heap.size ≤ wr.heap.size := (HB5.out.trans (HBX.out.mono HB5.out.size)).size
      have hlo : LsB w6 lb a2 a3 (s.size : Int) (.slice sa (sumsOf s).length sc) := HLX.out.below HBO.out
      have hneq : lb ≠ ob := by have := HLX.out.lt; omega
      have L7 : LsB (w6.setCell ⟨ob, 2, none⟩ (.int .i64 ((s.size : Int) + 1))) lb a2 a3 (s.size : Int) (.slice sa (sumsOf s).length sc) := (block_setCell_other hneq).trans hlo
      have O7 : LsB (w6.setCell ⟨ob, 2, none⟩ (.int .i64 ((s.size : Int) + 1))) ob a2 a3 ((s.size : Int) + 1) (.slice sa (sumsOf s).length sc) := block_setCell (i := 2) HO0.out
      have B7 := B6.setCell (p := ⟨ob, 2, none⟩) (Nat.le_trans hwr hlow) (.int .i64 ((s.size : Int) + 1))
      have BX7 : Below wr.heap.size wr (w6.setCell ⟨ob, 2, none⟩ (.int .i64 ((s.size : Int) + 1))) := HBO.out.setCell (p := ⟨ob, 2, none⟩) hlow _
      have S7 := (HS5.out.below HBX.out).below BX7
      generalize w6.setCell ⟨ob, 2, none⟩ (.int .i64 ((s.size : Int) + 1)) = w7 at L7 O7 B7 BX7 S7 ⊢
      have HBF := Lib.hid B7
      have HTB := Lib.hid (fun (W : World) (hb : Below w7.drew.heap.size w7.drew W) => HT.out W (B7.trans ((((Below.refl _ w7).drew).trans hb).mono B7.size)))
      have HLB := Lib.hid (fun (W : World) (hb : Below w7.drew.heap.size w7.drew W) => L7.below (((Below.refl _ w7).drew).trans hb))
      have HOB := Lib.hid (fun (W : World) (hb : Below w7.drew.heap.size w7.drew W) => O7.below (((Below.refl _ w7).drew).trans hb))
      have HSM := Lib.hid (fun (W : World) (hb : Below w7.drew.heap.size w7.drew W) => S7.below (((Below.refl _ w7).drew).trans hb))
      have HSZ : Hid (s.size ≤ 100000000) := by show _ ≤ _; have := HS.out; have := HN.out; omega
      have HNS : Hid (((s.size : Int) == (n : Int)) = true) := by show _ = _; have := HS.out; simp; omega
      have HLE : Hid ((((sumsOf s).length : Int) == ((cutS s).length : Int)) = true) := by show _ = _; rw [sumsOf_length, cutS_length]; simp
      have HS1 : Hid (sameB (ofL a2 a3 s) (ofL a2 a3 s) = true) := (sameB_iff _ _).2 rfl
      have HS2 : Hid (sameB (ofL a2 a3 s) ⟨a2, a3, (s.size : Int) + 1, sumsOf s⟩ = false) := by
        show _ = false
        refine Bool.eq_false_iff.2 (fun h => ?_)
        have := congrArg Ls.bytes ((sameB_iff _ _).1 h)
        have h2 : (s.size : Int) = (s.size : Int) + 1 := this
        omega
      have HS3 : Hid (sameB (ofL a2 a3 s) (ofL (bits .xor .i64 a2 1) a3 s) = false) := by
        show _ = false
        refine Bool.eq_false_iff.2 (fun h => ?_)
        have := congrArg Ls.index ((sameB_iff _ _).1 h)
        exact HX.out this.symm
      clear L7 O7 B7 BX7 S7 hneq hlo hwr hlow B6 HO0 HBO HOB0 HLX o0 o1 o2 o3 f0 f1 f2 f3 l0 l1 l2 l3 HR5 HS5 HB5 HL5 HBX
      refine wp_region_steps (atP [fun v _ => v = (.string s),
        fun v _ => v = (.string s),
        fun v _ => v = (.bool true),
        fun v _ => v = (.bool true),
        fun v _ => v = (.pointer (some ⟨lb, 3, none⟩)),
        fun v _ => v = (.slice sa (sumsOf s).length sc),
        fun v _ => v = (.int .i64 ((sumsOf s).length : Int)),
        fun v _ => v = (.slice va (cutS s).length vc),
        fun v _ => v = (.int .i64 ((cutS s).length : Int)),
        fun v _ => v = (.bool true),
        fun v _ => v = (.bool true),
        fun v _ => v = (.bool true),
        fun v _ => v = (.pointer (some ⟨lb, 0, none⟩)),
        fun v _ => v = (.int .i64 a2),
        fun v _ => v = (.int .i64 a2),
        fun v _ => v = (.bool true),
        fun v _ => v = (.bool true),
        fun v _ => v = (.bool true),
        fun v _ => v = (.pointer (some ⟨lb, 1, none⟩)),
        fun v _ => v = (.int .i64 a3),
        fun v _ => v = (.int .i64 a3),
        fun v _ => v = (.bool true),
        fun v _ => v = (.bool true),
        fun v _ => v = (.bool true),
        fun v _ => v = (.pointer (some ⟨lb, 2, none⟩)),
        fun v _ => v = (.int .i64 (s.size : Int)),
        fun v _ => v = (.int .i64 (n : Int)),
        fun v _ => v = (.bool true),
        fun v _ => v = (.bool true),
        fun v _ => v = (.bool true),
        fun v _ => v = (lsV (ofL a2 a3 s) (.slice sa (sumsOf s).length sc)),
        fun v _ => v = (lsV (ofL a2 a3 s) (.slice sa (sumsOf s).length sc)),
        fun v _ => v = (.bool true),
        fun v _ => v = (.bool true),
        fun v _ => v = (.bool true),
        fun v _ => v = (lsV (ofL a2 a3 s) (.slice sa (sumsOf s).length sc)),
        fun v _ => v = (lsV ⟨a2, a3, (s.size : Int) + 1, sumsOf s⟩ (.slice sa (sumsOf s).length sc)),
        fun v _ => v = (.bool false),
        fun v _ => v = (.bool true),
        fun v _ => v = (.bool true),
        fun v _ => v = (.bool true),
        fun v _ => v = (lsV (ofL a2 a3 s) (.slice sa (sumsOf s).length sc)),
        fun v _ => v = (.int .i64 a2),
        fun v _ => v = (.int .i64 (bits .xor .i64 a2 1)),
        fun v _ => v = (.int .i64 a3),
        fun v _ => v = (.string s),
        fun v W => ∃ sv2, v = lsV (ofL (bits .xor .i64 a2 1) a3 s) sv2 ∧ SmR W sv2 (sumsOf s),
        fun v _ => v = (.bool false),
        fun v _ => v = (.bool true),
        fun v _ => v = (.bool true),
        fun v _ => v = (.bool true)]) (fun w w' => Below w.heap.size w w') (by kernel_rfl) (by kernel_rfl) (by kernel_rfl) (Below.refl _ _) (fun i v w w' _ h1 h2 => atP_keep (R := fun w w' => Below w.heap.size w w') (atK1 (fun _ _ _ h _ => h) (atK1 (fun _ _ _ h _ => h) (atK1 (fun _ _ _ h _ => h) (atK1 (fun _ _ _ h _ => h) (atK1 (fun _ _ _ h _ => h) (atK1 (fun _ _ _ h _ => h) (atK1 (fun _ _ _ h _ => h) (atK1 (fun _ _ _ h _ => h) (atK1 (fun _ _ _ h _ => h) (atK1 (fun _ _ _ h _ => h) (atK1 (fun _ _ _ h _ => h) (atK1 (fun _ _ _ h _ => h) (atK1 (fun _ _ _ h _ => h) (atK1 (fun _ _ _ h _ => h) (atK1 (fun _ _ _ h _ => h) (atK1 (fun _ _ _ h _ => h) (atK1 (fun _ _ _ h _ => h) (atK1 (fun _ _ _ h _ => h) (atK1 (fun _ _ _ h _ => h) (atK1 (fun _ _ _ h _ => h) (atK1 (fun _ _ _ h _ => h) (atK1 (fun _ _ _ h _ => h) (atK1 (fun _ _ _ h _ => h) (atK1 (fun _ _ _ h _ => h) (atK1 (fun _ _ _ h _ => h) (atK1 (fun _ _ _ h _ => h) (atK1 (fun _ _ _ h _ => h) (atK1 (fun _ _ _ h _ => h) (atK1 (fun _ _ _ h _ => h) (atK1 (fun _ _ _ h _ => h) (atK1 (fun _ _ _ h _ => h) (atK1 (fun _ _ _ h _ => h) (atK1 (fun _ _ _ h _ => h) (atK1 (fun _ _ _ h _ => h) (atK1 (fun _ _ _ h _ => h) (atK1 (fun _ _ _ h _ => h) (atK1 (fun _ _ _ h _ => h) (atK1 (fun _ _ _ h _ => h) (atK1 (fun _ _ _ h _ => h) (atK1 (fun _ _ _ h _ => h) (atK1 (fun _ _ _ h _ => h) (atK1 (fun _ _ _ h _ => h) (atK1 (fun _ _ _ h _ => h) (atK1 (fun _ _ _ h _ => h) (atK1 (fun _ _ _ h _ => h) (atK1 (fun _ _ _ h _ => h) (atK1 (fun v w w' h hr => h.elim fun x hx => ⟨x, hx.1, hx.2.below hr⟩) (atK1 (fun _ _ _ h _ => h) (atK1 (fun _ _ _ h _ => h) (atK1 (fun _ _ _ h _ => h) (atK1 (fun _ _ _ h _ => h) (atK0)))))))))))))))))))))))))))))))))))))))))))))))))))) i h1 h2) (fun u v w h1 h2 => h1.trans (h2.mono h1.size)) ?_ ?_
      · intro j o ho x W1 hR hF
        match j, ho with
        | 0, ho =>
          obtain rfl := Option.some.inj ho
          exact gstep_move rfl (wanted0 rfl) _ rfl _ (eval_of 12 _ (by kernel_rfl) rfl) ⟨_, rfl, rfl, Below.refl _ _⟩
        | 1, ho =>
          obtain rfl := Option.some.inj ho
          exact gstep_move rfl (wanted0 rfl) _ rfl _ (eval_of 9 _ (by kernel_rfl) rfl) ⟨_, rfl, rfl, Below.refl _ _⟩
        | 2, ho =>
          obtain rfl := Option.some.inj ho
          exact gstep_bin rfl (wanted0 rfl) _ _ _ _ _ rfl _ _ (eval_at 76 0 _ (by kernel_rfl) (show 76 < 126 by decide) (hF 0 (by kernel_rfl))) (eval_at 77 1 _ (by kernel_rfl) (show 77 < 126 by decide) (hF 1 (by kernel_rfl))) _ (run_eqS W1 _ _ _ (by simp) _ _) ⟨_, rfl, rfl, Below.refl _ _⟩
        | 3, ho =>
          obtain rfl := Option.some.inj ho
          exact gstep_move rfl (wanted0 rfl) _ rfl _ (eval_at 78 2 _ (by kernel_rfl) (show 78 < 126 by decide) (hF 2 (by kernel_rfl))) ⟨_, rfl, rfl, Below.refl _ _⟩
        | 4, ho =>
          obtain rfl := Option.some.inj ho
          exact gstep_field rfl (wanted_at 79 3 true _ true rfl (by kernel_rfl) (show 79 < 126 by decide) (hF 3 (by kernel_rfl)) rfl) _ _ _ rfl _ (eval_of 11 _ (by kernel_rfl) rfl) _ ((by go_simp)) ⟨_, rfl, rfl, Below.refl _ _⟩
        | 5, ho =>
          obtain rfl := Option.some.inj ho
          exact gstep_load rfl (wanted_at 79 3 true _ true rfl (by kernel_rfl) (show 79 < 126 by decide) (hF 3 (by kernel_rfl)) rfl) _ _ rfl _ (eval_at 80 4 _ (by kernel_rfl) (show 80 < 126 by decide) (hF 4 (by kernel_rfl))) _ (run_loadSm W1 _ _ _ _ (HLB.out W1 hR).cells.1.2.2.2) ⟨_, rfl, rfl, Below.refl _ _⟩
        | 6, ho =>
          obtain rfl := Option.some.inj ho
          exact gstep_lenLSm rfl (wanted_at 79 3 true _ true rfl (by kernel_rfl) (show 79 < 126 by decide) (hF 3 (by kernel_rfl)) rfl) _ rfl _ _ _ (eval_at 81 5 _ (by kernel_rfl) (show 81 < 126 by decide) (hF 5 (by kernel_rfl))) ⟨_, rfl, rfl, Below.refl _ _⟩
        | 7, ho =>
          obtain rfl := Option.some.inj ho
          exact gstep_move rfl (wanted_at 79 3 true _ true rfl (by kernel_rfl) (show 79 < 126 by decide) (hF 3 (by kernel_rfl)) rfl) _ rfl _ (eval_of 10 _ (by kernel_rfl) rfl) ⟨_, rfl, rfl, Below.refl _ _⟩
        | 8, ho =>
          obtain rfl := Option.some.inj ho
          exact gstep_lenLSs rfl (wanted_at 79 3 true _ true rfl (by kernel_rfl) (show 79 < 126 by decide) (hF 3 (by kernel_rfl)) rfl) _ rfl _ _ _ (eval_at 83 7 _ (by kernel_rfl) (show 83 < 126 by decide) (hF 7 (by kernel_rfl))) ⟨_, rfl, rfl, Below.refl _ _⟩
        | 9, ho =>
          obtain rfl := Option.some.inj ho
          exact gstep_bin rfl (wanted_at 79 3 true _ true rfl (by kernel_rfl) (show 79 < 126 by decide) (hF 3 (by kernel_rfl)) rfl) _ _ _ _ _ rfl _ _ (eval_at 82 6 _ (by kernel_rfl) (show 82 < 126 by decide) (hF 6 (by kernel_rfl))) (eval_at 84 8 _ (by kernel_rfl) (show 84 < 126 by decide) (hF 8 (by kernel_rfl))) _ (run_eqI W1 _ _ _ HLE.out _ _) ⟨_, rfl, rfl, Below.refl _ _⟩
        | 10, ho =>
          obtain rfl := Option.some.inj ho
          exact gstep_pick rfl (wanted0 rfl) _ _ _ rfl true (eval_at 79 3 _ (by kernel_rfl) (show 79 < 126 by decide) (hF 3 (by kernel_rfl))) _ (by rw [if_pos rfl]; exact (eval_at 85 9 _ (by kernel_rfl) (show 85 < 126 by decide) (hF 9 (by kernel_rfl)))) ⟨_, rfl, rfl, Below.refl _ _⟩
        | 11, ho =>
          obtain rfl := Option.some.inj ho
          exact gstep_move rfl (wanted0 rfl) _ rfl _ (eval_at 86 10 _ (by kernel_rfl) (show 86 < 126 by decide) (hF 10 (by kernel_rfl))) ⟨_, rfl, rfl, Below.refl _ _⟩
        | 12, ho =>
          obtain rfl := Option.some.inj ho
          exact gstep_field rfl (wanted_at 87 11 true _ true rfl (by kernel_rfl) (show 87 < 126 by decide) (hF 11 (by kernel_rfl)) rfl) _ _ _ rfl _ (eval_of 11 _ (by kernel_rfl) rfl) _ ((by go_simp)) ⟨_, rfl, rfl, Below.refl _ _⟩
        | 13, ho =>
          obtain rfl := Option.some.inj ho
          exact gstep_load rfl (wanted_at 87 11 true _ true rfl (by kernel_rfl) (show 87 < 126 by decide) (hF 11 (by kernel_rfl)) rfl) _ _ rfl _ (eval_at 88 12 _ (by kernel_rfl) (show 88 < 126 by decide) (hF 12 (by kernel_rfl))) _ (run_loadI W1 _ _ (HLB.out W1 hR).cells.1.1) ⟨_, rfl, rfl, Below.refl _ _⟩
        | 14, ho =>
          obtain rfl := Option.some.inj ho
          exact gstep_move rfl (wanted_at 87 11 true _ true rfl (by kernel_rfl) (show 87 < 126 by decide) (hF 11 (by kernel_rfl)) rfl) _ rfl _ (eval_of 2 _ (by kernel_rfl) rfl) ⟨_, rfl, rfl, Below.refl _ _⟩
        | 15, ho =>
          obtain rfl := Option.some.inj ho
          exact gstep_bin rfl (wanted_at 87 11 true _ true rfl (by kernel_rfl) (show 87 < 126 by decide) (hF 11 (by kernel_rfl)) rfl) _ _ _ _ _ rfl _ _ (eval_at 89 13 _ (by kernel_rfl) (show 89 < 126 by decide) (hF 13 (by kernel_rfl))) (eval_at 90 14 _ (by kernel_rfl) (show 90 < 126 by decide) (hF 14 (by kernel_rfl))) _ (run_eqI W1 _ _ _ (by simp) _ _) ⟨_, rfl, rfl, Below.refl _ _⟩
        | 16, ho =>
          obtain rfl := Option.some.inj ho
          exact gstep_pick rfl (wanted0 rfl) _ _ _ rfl true (eval_at 87 11 _ (by kernel_rfl) (show 87 < 126 by decide) (hF 11 (by kernel_rfl))) _ (by rw [if_pos rfl]; exact (eval_at 91 15 _ (by kernel_rfl) (show 91 < 126 by decide) (hF 15 (by kernel_rfl)))) ⟨_, rfl, rfl, Below.refl _ _⟩
        | 17, ho =>
          obtain rfl := Option.some.inj ho
          exact gstep_move rfl (wanted0 rfl) _ rfl _ (eval_at 92 16 _ (by kernel_rfl) (show 92 < 126 by decide) (hF 16 (by kernel_rfl))) ⟨_, rfl, rfl, Below.refl _ _⟩
        | 18, ho =>
          obtain rfl := Option.some.inj ho
          exact gstep_field rfl (wanted_at 93 17 true _ true rfl (by kernel_rfl) (show 93 < 126 by decide) (hF 17 (by kernel_rfl)) rfl) _ _ _ rfl _ (eval_of 11 _ (by kernel_rfl) rfl) _ ((by go_simp)) ⟨_, rfl, rfl, Below.refl _ _⟩
        | 19, ho =>
          obtain rfl := Option.some.inj ho
          exact gstep_load rfl (wanted_at 93 17 true _ true rfl (by kernel_rfl) (show 93 < 126 by decide) (hF 17 (by kernel_rfl)) rfl) _ _ rfl _ (eval_at 94 18 _ (by kernel_rfl) (show 94 < 126 by decide) (hF 18 (by kernel_rfl))) _ (run_loadI W1 _ _ (HLB.out W1 hR).cells.1.2.1) ⟨_, rfl, rfl, Below.refl _ _⟩
        | 20, ho =>
          obtain rfl := Option.some.inj ho
          exact gstep_move rfl (wanted_at 93 17 true _ true rfl (by kernel_rfl) (show 93 < 126 by decide) (hF 17 (by kernel_rfl)) rfl) _ rfl _ (eval_of 3 _ (by kernel_rfl) rfl) ⟨_, rfl, rfl, Below.refl _ _⟩
        | 21, ho =>
          obtain rfl := Option.some.inj ho
          exact gstep_bin rfl (wanted_at 93 17 true _ true rfl (by kernel_rfl) (show 93 < 126 by decide) (hF 17 (by kernel_rfl)) rfl) _ _ _ _ _ rfl _ _ (eval_at 95 19 _ (by kernel_rfl) (show 95 < 126 by decide) (hF 19 (by kernel_rfl))) (eval_at 96 20 _ (by kernel_rfl) (show 96 < 126 by decide) (hF 20 (by kernel_rfl))) _ (run_eqI W1 _ _ _ (by simp) _ _) ⟨_, rfl, rfl, Below.refl _ _⟩
        | 22, ho =>
          obtain rfl := Option.some.inj ho
          exact gstep_pick rfl (wanted0 rfl) _ _ _ rfl true (eval_at 93 17 _ (by kernel_rfl) (show 93 < 126 by decide) (hF 17 (by kernel_rfl))) _ (by rw [if_pos rfl]; exact (eval_at 97 21 _ (by kernel_rfl) (show 97 < 126 by decide) (hF 21 (by kernel_rfl)))) ⟨_, rfl, rfl, Below.refl _ _⟩
        | 23, ho =>
          obtain rfl := Option.some.inj ho
          exact gstep_move rfl (wanted0 rfl) _ rfl _ (eval_at 98 22 _ (by kernel_rfl) (show 98 < 126 by decide) (hF 22 (by kernel_rfl))) ⟨_, rfl, rfl, Below.refl _ _⟩
        | 24, ho =>
          obtain rfl := Option.some.inj ho
          exact gstep_field rfl (wanted_at 99 23 true _ true rfl (by kernel_rfl) (show 99 < 126 by decide) (hF 23 (by kernel_rfl)) rfl) _ _ _ rfl _ (eval_of 11 _ (by kernel_rfl) rfl) _ ((by go_simp)) ⟨_, rfl, rfl, Below.refl _ _⟩
        | 25, ho =>
          obtain rfl := Option.some.inj ho
          exact gstep_load rfl (wanted_at 99 23 true _ true rfl (by kernel_rfl) (show 99 < 126 by decide) (hF 23 (by kernel_rfl)) rfl) _ _ rfl _ (eval_at 100 24 _ (by kernel_rfl) (show 100 < 126 by decide) (hF 24 (by kernel_rfl))) _ (run_loadI W1 _ _ (HLB.out W1 hR).cells.1.2.2.1) ⟨_, rfl, rfl, Below.refl _ _⟩
        | 26, ho =>
          obtain rfl := Option.some.inj ho
          exact gstep_move rfl (wanted_at 99 23 true _ true rfl (by kernel_rfl) (show 99 < 126 by decide) (hF 23 (by kernel_rfl)) rfl) _ rfl _ (eval_of 0 _ (by kernel_rfl) rfl) ⟨_, rfl, rfl, Below.refl _ _⟩
        | 27, ho =>
          obtain rfl := Option.some.inj ho
          exact gstep_bin rfl (wanted_at 99 23 true _ true rfl (by kernel_rfl) (show 99 < 126 by decide) (hF 23 (by kernel_rfl)) rfl) _ _ _ _ _ rfl _ _ (eval_at 101 25 _ (by kernel_rfl) (show 101 < 126 by decide) (hF 25 (by kernel_rfl))) (eval_at 102 26 _ (by kernel_rfl) (show 102 < 126 by decide) (hF 26 (by kernel_rfl))) _ (run_eqI W1 _ _ _ HNS.out _ _) ⟨_, rfl, rfl, Below.refl _ _⟩
        | 28, ho =>
          obtain rfl := Option.some.inj ho
          exact gstep_pick rfl (wanted0 rfl) _ _ _ rfl true (eval_at 99 23 _ (by kernel_rfl) (show 99 < 126 by decide) (hF 23 (by kernel_rfl))) _ (by rw [if_pos rfl]; exact (eval_at 103 27 _ (by kernel_rfl) (show 103 < 126 by decide) (hF 27 (by kernel_rfl)))) ⟨_, rfl, rfl, Below.refl _ _⟩
        | 29, ho =>
          obtain rfl := Option.some.inj ho
          exact gstep_move rfl (wanted0 rfl) _ rfl _ (eval_at 104 28 _ (by kernel_rfl) (show 104 < 126 by decide) (hF 28 (by kernel_rfl))) ⟨_, rfl, rfl, Below.refl _ _⟩
        | 30, ho =>
          obtain rfl := Option.some.inj ho
          exact gstep_load rfl (wanted_at 105 29 true _ true rfl (by kernel_rfl) (show 105 < 126 by decide) (hF 29 (by kernel_rfl)) rfl) _ _ rfl _ (eval_of 11 _ (by kernel_rfl) rfl) _ (run_loadLs W1 _ _ _ _ _ _ _ (HLB.out W1 hR)) ⟨_, rfl, rfl, Below.refl _ _⟩
        | 31, ho =>
          obtain rfl := Option.some.inj ho
          exact gstep_load rfl (wanted_at 105 29 true _ true rfl (by kernel_rfl) (show 105 < 126 by decide) (hF 29 (by kernel_rfl)) rfl) _ _ rfl _ (eval_of 11 _ (by kernel_rfl) rfl) _ (run_loadLs W1 _ _ _ _ _ _ _ (HLB.out W1 hR)) ⟨_, rfl, rfl, Below.refl _ _⟩
        | 32, ho =>
          obtain rfl := Option.some.inj ho
          refine gstep_call2 rfl (wanted_at 105 29 true _ true rfl (by kernel_rfl) (show 105 < 126 by decide) (hF 29 (by kernel_rfl)) rfl) _ _ _ _ rfl _ _ (eval_at 106 30 _ (by kernel_rfl) (show 106 < 126 by decide) (hF 30 (by kernel_rfl))) (eval_at 107 31 _ (by kernel_rfl) (show 107 < 126 by decide) (hF 31 (by kernel_rfl))) (by go_simp) ?_
          refine (csame_any (ofL a2 a3 s) (ofL a2 a3 s) _ _ W1 (HSM.out W1 hR) (HSM.out W1 hR)).mono ?_
          rintro e w2 ⟨rfl, hb⟩
          exact ⟨_, rfl, _, rfl, (congrArg Value.bool HS1.out), hb⟩
        | 33, ho =>
          obtain rfl := Option.some.inj ho
          exact gstep_pick rfl (wanted0 rfl) _ _ _ rfl true (eval_at 105 29 _ (by kernel_rfl) (show 105 < 126 by decide) (hF 29 (by kernel_rfl))) _ (by rw [if_pos rfl]; exact (eval_at 108 32 _ (by kernel_rfl) (show 108 < 126 by decide) (hF 32 (by kernel_rfl)))) ⟨_, rfl, rfl, Below.refl _ _⟩
        | 34, ho =>
          obtain rfl := Option.some.inj ho
          exact gstep_move rfl (wanted0 rfl) _ rfl _ (eval_at 109 33 _ (by kernel_rfl) (show 109 < 126 by decide) (hF 33 (by kernel_rfl))) ⟨_, rfl, rfl, Below.refl _ _⟩
        | 35, ho =>
          obtain rfl := Option.some.inj ho
          exact gstep_load rfl (wanted_at 110 34 true _ true rfl (by kernel_rfl) (show 110 < 126 by decide) (hF 34 (by kernel_rfl)) rfl) _ _ rfl _ (eval_of 11 _ (by kernel_rfl) rfl) _ (run_loadLs W1 _ _ _ _ _ _ _ (HLB.out W1 hR)) ⟨_, rfl, rfl, Below.refl _ _⟩
        | 36, ho =>
          obtain rfl := Option.some.inj ho
          exact gstep_load rfl (wanted_at 110 34 true _ true rfl (by kernel_rfl) (show 110 < 126 by decide) (hF 34 (by kernel_rfl)) rfl) _ _ rfl _ (eval_of 15 _ (by kernel_rfl) rfl) _ (run_loadLs W1 _ _ _ _ _ _ _ (HOB.out W1 hR)) ⟨_, rfl, rfl, Below.refl _ _⟩
        | 37, ho =>
          obtain rfl := Option.some.inj ho
          refine gstep_call2 rfl (wanted_at 110 34 true _ true rfl (by kernel_rfl) (show 110 < 126 by decide) (hF 34 (by kernel_rfl)) rfl) _ _ _ _ rfl _ _ (eval_at 111 35 _ (by kernel_rfl) (show 111 < 126 by decide) (hF 35 (by kernel_rfl))) (eval_at 112 36 _ (by kernel_rfl) (show 112 < 126 by decide) (hF 36 (by kernel_rfl))) (by go_simp) ?_
          refine (csame_any (ofL a2 a3 s) ⟨a2, a3, (s.size : Int) + 1, sumsOf s⟩ _ _ W1 (HSM.out W1 hR) (HSM.out W1 hR)).mono ?_
          rintro e w2 ⟨rfl, hb⟩
          exact ⟨_, rfl, _, rfl, (congrArg Value.bool HS2.out), hb⟩
        | 38, ho =>
          obtain rfl := Option.some.inj ho
          exact gstep_not rfl (wanted_at 110 34 true _ true rfl (by kernel_rfl) (show 110 < 126 by decide) (hF 34 (by kernel_rfl)) rfl) _ _ rfl _ (eval_at 113 37 _ (by kernel_rfl) (show 113 < 126 by decide) (hF 37 (by kernel_rfl))) ⟨_, rfl, rfl, Below.refl _ _⟩
        | 39, ho =>
          obtain rfl := Option.some.inj ho
          exact gstep_pick rfl (wanted0 rfl) _ _ _ rfl true (eval_at 110 34 _ (by kernel_rfl) (show 110 < 126 by decide) (hF 34 (by kernel_rfl))) _ (by rw [if_pos rfl]; exact (eval_at 114 38 _ (by kernel_rfl) (show 114 < 126 by decide) (hF 38 (by kernel_rfl)))) ⟨_, rfl, rfl, Below.refl _ _⟩
        | 40, ho =>
          obtain rfl := Option.some.inj ho
          exact gstep_move rfl (wanted0 rfl) _ rfl _ (eval_at 115 39 _ (by kernel_rfl) (show 115 < 126 by decide) (hF 39 (by kernel_rfl))) ⟨_, rfl, rfl, Below.refl _ _⟩
        | 41, ho =>
          obtain rfl := Option.some.inj ho
          exact gstep_load rfl (wanted_at 116 40 true _ true rfl (by kernel_rfl) (show 116 < 126 by decide) (hF 40 (by kernel_rfl)) rfl) _ _ rfl _ (eval_of 11 _ (by kernel_rfl) rfl) _ (run_loadLs W1 _ _ _ _ _ _ _ (HLB.out W1 hR)) ⟨_, rfl, rfl, Below.refl _ _⟩
        | 42, ho =>
          obtain rfl := Option.some.inj ho
          exact gstep_move rfl (wanted_at 116 40 true _ true rfl (by kernel_rfl) (show 116 < 126 by decide) (hF 40 (by kernel_rfl)) rfl) _ rfl _ (eval_of 2 _ (by kernel_rfl) rfl) ⟨_, rfl, rfl, Below.refl _ _⟩
        | 43, ho =>
          obtain rfl := Option.some.inj ho
          exact gstep_bin rfl (wanted_at 116 40 true _ true rfl (by kernel_rfl) (show 116 < 126 by decide) (hF 40 (by kernel_rfl)) rfl) _ _ _ _ _ rfl _ _ (eval_at 118 42 _ (by kernel_rfl) (show 118 < 126 by decide) (hF 42 (by kernel_rfl))) rfl _ (run_xorI W1 _ _ _ rfl _ _) ⟨_, rfl, rfl, Below.refl _ _⟩
        | 44, ho =>
          obtain rfl := Option.some.inj ho
          exact gstep_move rfl (wanted_at 116 40 true _ true rfl (by kernel_rfl) (show 116 < 126 by decide) (hF 40 (by kernel_rfl)) rfl) _ rfl _ (eval_of 3 _ (by kernel_rfl) rfl) ⟨_, rfl, rfl, Below.refl _ _⟩
        | 45, ho =>
          obtain rfl := Option.some.inj ho
          exact gstep_move rfl (wanted_at 116 40 true _ true rfl (by kernel_rfl) (show 116 < 126 by decide) (hF 40 (by kernel_rfl)) rfl) _ rfl _ (eval_of 9 _ (by kernel_rfl) rfl) ⟨_, rfl, rfl, Below.refl _ _⟩
        | 46, ho =>
          obtain rfl := Option.some.inj ho
          refine gstep_call3 rfl (wanted_at 116 40 true _ true rfl (by kernel_rfl) (show 116 < 126 by decide) (hF 40 (by kernel_rfl)) rfl) _ _ _ _ _ rfl _ _ _ (eval_at 119 43 _ (by kernel_rfl) (show 119 < 126 by decide) (hF 43 (by kernel_rfl))) (eval_at 120 44 _ (by kernel_rfl) (show 120 < 126 by decide) (hF 44 (by kernel_rfl))) (eval_at 121 45 _ (by kernel_rfl) (show 121 < 126 by decide) (hF 45 (by kernel_rfl))) (by go_simp) ?_
          refine (cof_any _ a3 s HSZ.out W1 (HTB.out W1 hR)).mono ?_
          rintro e w2 ⟨sv2, rfl, hrow2, hb⟩
          exact ⟨_, rfl, _, rfl, ⟨sv2, rfl, SmR.of_row hrow2 HSL.out (sumsOf_in s)⟩, hb⟩
        | 47, ho =>
          obtain rfl := Option.some.inj ho
          obtain ⟨sv2, hx1, hx2⟩ := hF 46 (by kernel_rfl)
          refine gstep_call2 rfl (wanted_at 116 40 true _ true rfl (by kernel_rfl) (show 116 < 126 by decide) (hF 40 (by kernel_rfl)) rfl) _ _ _ _ rfl _ _ (eval_at 117 41 _ (by kernel_rfl) (show 117 < 126 by decide) (hF 41 (by kernel_rfl))) (eval_at 122 46 _ (by kernel_rfl) (show 122 < 126 by decide) hx1) (by go_simp) ?_
          refine (csame_any (ofL a2 a3 s) (ofL (bits .xor .i64 a2 1) a3 s) _ sv2 W1 (HSM.out W1 hR) hx2).mono ?_
          rintro e w2 ⟨rfl, hb⟩
          exact ⟨_, rfl, _, rfl, (congrArg Value.bool HS3.out), hb⟩
        | 48, ho =>
          obtain rfl := Option.some.inj ho
          exact gstep_not rfl (wanted_at 116 40 true _ true rfl (by kernel_rfl) (show 116 < 126 by decide) (hF 40 (by kernel_rfl)) rfl) _ _ rfl _ (eval_at 123 47 _ (by kernel_rfl) (show 123 < 126 by decide) (hF 47 (by kernel_rfl))) ⟨_, rfl, rfl, Below.refl _ _⟩
        | 49, ho =>
          obtain rfl := Option.some.inj ho
          exact gstep_pick rfl (wanted0 rfl) _ _ _ rfl true (eval_at 116 40 _ (by kernel_rfl) (show 116 < 126 by decide) (hF 40 (by kernel_rfl))) _ (by rw [if_pos rfl]; exact (eval_at 124 48 _ (by kernel_rfl) (show 124 < 126 by decide) (hF 48 (by kernel_rfl)))) ⟨_, rfl, rfl, Below.refl _ _⟩
        | 50, ho =>
          obtain rfl := Option.some.inj ho
          exact gstep_assign rfl (wanted0 rfl) _ rfl _ (eval_at 125 49 _ (by kernel_rfl) (show 125 < 126 by decide) (hF 49 (by kernel_rfl))) ⟨_, rfl, rfl, Below.refl _ _⟩
        | n + 51, ho => simp at ho
      · intro x w5 hR hF
        have h51 := hF 50 (by decide)
        simp only [putAll, Act.put, List.setIfInBounds_toArray, List.set_cons_succ, List.set_cons_zero]
        generalize x 50 = v51 at h51 ⊢
        have h51' : v51 = .bool true := h51
        subst h51'
        have B5 := HBF.out.trans (((Below.refl _ _).drew.trans hR).mono HBF.out.size)
        clear hF h51
        go_wp2_with fail
        go_ret
        exact ⟨rfl, B5⟩

theorem own : ownKnob Tryd.prog.godebug = none := by kernel_rfl
theorem laidOut : laidOutB Tryd.prog = true := by kernel_rfl
theorem gHi : Tryd.prog.globalNamed "orchard/sum.highTable" = some 0 := by kernel_rfl
theorem gLo : Tryd.prog.globalNamed "orchard/sum.lowTable" = some 1 := by kernel_rfl
theorem gHiType : (Tryd.prog.globals[0]?).map (·.type) = some 187 := by kernel_rfl
theorem gLoType : (Tryd.prog.globals[1]?).map (·.type) = some 187 := by kernel_rfl
theorem cellsTab : Tryd.prog.cellsOf 187 = 16 := by kernel_rfl
theorem cellsSum : Tryd.prog.cellsOf 70 = 1 := by kernel_rfl

theorem table_lo {W : World} (h : laidMetH Tryd.prog Rows.chunkCutsRow.laid W) : Lib.TabIs Tryd.prog W "orchard/sum.lowTable" .u32 LO :=
  Lib.tabIs_of_head (rest := [("orchard/sum.highTable", Rows.laid_orchard_sum_highTable)]) gLo gLoType Tryd.underlying187 Tryd.underlying70 cellsSum cellsTab h
theorem table_hi {W : World} (h : laidMetH Tryd.prog Rows.chunkCutsRow.laid W) : Lib.TabIs Tryd.prog W "orchard/sum.highTable" .u32 HI :=
  Lib.tabIs_of_head (rest := []) gHi gHiType Tryd.underlying187 Tryd.underlying70 cellsSum cellsTab (laidMet.tail (show laidMet Tryd.prog [("orchard/sum.lowTable", Rows.laid_orchard_sum_lowTable), ("orchard/sum.highTable", Rows.laid_orchard_sum_highTable)] W from h))
theorem tabs_of {W : World} (h : laidMetH Tryd.prog Rows.chunkCutsRow.laid W) : Tabs W := by
  have c0 := fun (j : Nat) (hj : j < 16) => (table_hi h).cell gHi j hj
  have c1 := fun (j : Nat) (hj : j < 16) => (table_lo h).cell gLo j hj
  refine ⟨⟨World.block_lt_of_cell? W _ (c0 0 (by decide)), World.block_lt_of_cell? W _ (c1 0 (by decide))⟩, fun j hj => ?_, fun j hj => ?_⟩
  · rw [c0 j hj, hi_cast j]
  · rw [c1 j hj, lo_cast j]

theorem contract (H : Type) (enc : TypeId × Value → H) (W : World) (base : Nat) (args : Array Value) (ds gs : List (DataW H)) (before : List MemPlace)
    (hval : ∀ (j : Nat) t v, Tryd.f5.params[j]? = some t → args[j]? = some v → Value.okWide Tryd.prog W .any base t v)
    (hW : DataW.Whole enc Tryd.prog Tryd.f5.params.toList Rows.chunkCutsSpec.vars false W args.toList ds gs before) (hL : laidMetH Tryd.prog Rows.chunkCutsRow.laid W) :
    Calls Tryd.prog 5 args W fun e W' => ∃ v, e = .returned v ∧ Rows.chunkCutsSpec.post enc Tryd.prog Tryd.f5 false true false false W args v W' := by
  have hT := tabs_of hL
  have hW' := hW
  obtain ⟨p, q, hA0, hV, rfl, hfz, hnd⟩ := hW
  have hA : DataW.TrodAll enc Tryd.prog W 0 (fun _ => true) true Tryd.f5.params.toList args.toList ds p := hA0
  rw [Tryd.params5] at hA hval
  obtain ⟨v0, vs0, d0, ds0, p0, q0, hargs, rfl, rfl, h0, r0⟩ := trodAll_cons hA
  obtain ⟨v1, vs1, d1, ds1, p1, q1, rfl, rfl, rfl, h1, r1⟩ := trodAll_cons r0
  obtain ⟨v2, vs2, d2, ds2, p2, q2, rfl, rfl, rfl, h2, r2⟩ := trodAll_cons r1
  obtain ⟨v3, vs3, d3, ds3, p3, q3, rfl, rfl, rfl, h3, r3⟩ := trodAll_cons r2
  obtain ⟨rfl, rfl, rfl⟩ := trodAll_nil r3
  obtain rfl : args = #[v0, v1, v2, v3] := by cases args; simp_all
  obtain ⟨rfl, rfl⟩ := trodVars_none hV
  obtain ⟨a0, rfl, rfl, rfl, w0⟩ := open_int Tryd.underlying3 (hval 0 3 v0 rfl rfl) h0
  obtain ⟨a1, rfl, rfl, rfl, w1⟩ := open_int Tryd.underlying3 (hval 1 3 v1 rfl rfl) h1
  obtain ⟨a2, rfl, rfl, rfl, w2⟩ := open_int Tryd.underlying3 (hval 2 3 v2 rfl rfl) h2
  obtain ⟨a3, rfl, rfl, rfl, w3⟩ := open_int Tryd.underlying3 (hval 3 3 v3 rfl rfl) h3
  clear hA0
  refine (walk a0 a1 a2 a3 W w0 w1 w2 w3 hT).mono fun e W' ⟨he, bel⟩ => ?_
  subst he
  exact ⟨_, rfl, _, _, _, [], _, [], hW', trodAll_mk1 (shut_bool Tryd.underlying4 _), (trodAll_cons_mk (shut_int Tryd.underlying3 w0) (trodAll_cons_mk (shut_int Tryd.underlying3 w1) (trodAll_cons_mk (shut_int Tryd.underlying3 w2) (trodAll_cons_mk (shut_int Tryd.underlying3 w3) trodAll_mk0)))), rfl, bel.frame _, fun h => by cases h⟩

def setTab (l : List Int) : Obj → Obj
  | .cells _ t frozen => .cells (l.map (Value.int .u32)).toArray t frozen
  | o => o
noncomputable def laidWorld (os : Os) : World :=
  { World.holding Tryd.prog os ⟨#[], #[], []⟩ with heap := ((World.holding Tryd.prog os ⟨#[], #[], []⟩).heap.modify 1 (setTab LO)).modify 0 (setTab HI) }
theorem laid_met (os : Os) : laidMet Tryd.prog Rows.chunkCutsRow.laid ((laidWorld os).forCall (fun _ _ => 0) ⟨#[], #[.int .i64 0, .int .i64 0, .int .i64 0, .int .i64 0], []⟩).memory :=
  laidMet_of_run' 8 (by kernel_rfl) (by kernel_rfl)
theorem reads (os : Os) {H : Type} (enc : TypeId × Value → H) : ∃ places, DataW.whole enc Tryd.prog ((laidWorld os).forCall (fun _ _ => 0) ⟨#[], #[.int .i64 0, .int .i64 0, .int .i64 0, .int .i64 0], []⟩).memory Tryd.f5.params.toList Rows.chunkCutsSpec.vars false #[Value.int .i64 0, Value.int .i64 0, Value.int .i64 0, Value.int .i64 0].toList 8 = some ([.lit (.int .i64 0), .lit (.int .i64 0), .lit (.int .i64 0), .lit (.int .i64 0)], [], places) :=
  ⟨[], by kernel_rfl⟩

set_option maxRecDepth 100000 in
theorem lifted (os : Os) (started : os.Started) (H : Type) (enc : TypeId × Value → H) (F : Stop.Interp) :
    ReturnsInHanded {} Tryd.checked os 5 .any ((OpenSpec.ofChange Rows.chunkCutsSpec).preRow enc Tryd.prog Tryd.f5 Rows.chunkCutsRow.domain false Rows.chunkCutsRow.laid) (((OpenSpec.ofChange Rows.chunkCutsSpec).at F).post enc Tryd.prog Tryd.f5 false true false false) := by
  obtain ⟨places, hx⟩ := reads os enc
  refine returnsInHanded_of_row (C := Tryd.checked) (s := OpenSpec.ofChange Rows.chunkCutsSpec) own started (by kernel_rfl) Tryd.func5
    (witness_row_at (enc := enc) (C := Tryd.checked) false (laidWorld os) #[.int .i64 0, .int .i64 0, .int .i64 0, .int .i64 0] rfl (by kernel_rfl) (by kernel_rfl) (by kernel_rfl)
      (OpenSpec.preRow_of_cond 8 hx (by kernel_rfl) (fun k hk => by cases hk) (by kernel_rfl) (laid_met os))) ?_
  intro W base args ds gs before hval hW _ _ _ hL _ _
  exact contract H enc W base args ds gs before hval hW hL

theorem said : Rows.ChunkCutsSaid :=
  OpenClaim.holds_of_cond 5 Tryd.f5 rfl rfl rfl rfl rfl rfl rfl ⟨rfl, rfl, rfl, rfl, rfl⟩ rfl rfl rfl rfl rfl (by kernel_rfl) Tryd.func5 (by kernel_rfl)
    (of_decide_eq_true (by kernel_rfl)) (by unfold Func.isWrapper; first | (rw [if_pos (by decide +kernel)]; kernel_rfl) | (rw [if_neg (by decide +kernel)]; exact ⟨rfl, rfl⟩))
    (fun os started H enc _ F => by rw [OpenClaim.pre_eq_preRow]; exact lifted os started H enc F)

theorem plain (f : FuncId) (fn : Func) (hf : Tryd.pinned.checked.prog.funcNamed "orchard/orchardlaw07.ChunkCuts" = some f) (hfn : Tryd.pinned.checked.prog.funcs[f]? = some fn) :
    false = Tryd.pinned.checked.prog.looks [] ∧ ∀ (j : Nat) t, fn.params[j]? = some t → Tryd.pinned.checked.prog.wantsStandIn t = false := by
  obtain rfl : f = 5 := Option.some.inj ((show Tryd.prog.funcNamed "orchard/orchardlaw07.ChunkCuts" = some 5 by kernel_rfl).symm.trans hf) |>.symm
  obtain rfl : fn = Tryd.f5 := (Option.some.inj (Tryd.func5.symm.trans hfn)).symm
  refine ⟨by kernel_rfl, fun j t ht => ?_⟩
  rw [Tryd.params5] at ht
  have hm := Array.mem_of_getElem? ht
  simp at hm
  subst hm
  exact (show Tryd.prog.wantsStandIn 3 = false by kernel_rfl)

theorem card : Rows.ChunkCutsCardSaid :=
  Claim7.holds_tied_plain_at .later [] _ _ _ _ said (fun _ h => by cases h) (by kernel_rfl) (fun _ h => by cases h) chunkCuts_row_tie rfl ⟨rfl, rfl⟩ (by kernel_rfl) rfl plain (by kernel_rfl)
end Go.Proofs.YtiknfifiglooeaaDoor.chunkCuts
