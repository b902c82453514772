/- ChunkOthers: a chunk of another snapshot, of another index, or truncated, is rejected for a repair, unless it has the chunk's length and checksum; no condition on the input (the two tables start as the program text lays them). -/
import Derived.Test.YtiknfifiglooeaaDoorChunkLk
import Derived.Test.YtiknfifiglooeaaDoorCards
import Derived.Test.YtiknfifiglooeaaDoorTie
import Derived.ProofKit
import Derived.OpenShut
import Derived.ShutString
import Derived.ChangeOld
import Derived.Deep.DeepHandedRow
import Derived.Lib.LaidTab
import Derived.Stop.LaidErr
namespace Go.Proofs.YtiknfifiglooeaaDoor.chunkOthers
open Go.ChangeShapes Go.WideShapes Go.ChangeAt Go.RowKit
open Go.ChangeMaps (open_string shut_string)
set_option linter.unusedVariables false
set_option maxRecDepth 100000
set_option maxHeartbeats 8000000 in
theorem walk (a0 a1 a2 : Int) (w : World) (w0 : (Lit.int .i64 a0).wf = true) (w1 : (Lit.int .i64 a1).wf = true) (w2 : (Lit.int .i64 a2).wf = true) (hT : Tabs w) :
    Calls Tryd.prog 11 #[.int .i64 a0, .int .i64 a1, .int .i64 a2] w fun e w' => e = .returned (.bool true) ∧ Below w.heap.size w w' := by
  have HT := Lib.hid (fun (x : World) (hb : Below w.heap.size w x) => hT.below hb)
  clear hT
  obtain ⟨n, hn⟩ : ∃ n : Nat, (n : Int) = 401 + a0 % 2048 := ⟨(401 + a0 % 2048).toNat, by omega⟩
  obtain ⟨q1, hq1⟩ : ∃ q : Nat, (q : Int) = a1 % 256 := ⟨(a1 % 256).toNat, by omega⟩
  obtain ⟨o7, ho7⟩ : ∃ o7 : Int, o7 = a2 % 8 := ⟨_, rfl⟩
  have hand0 : bits .and .i64 a0 2047 = (n : Int) - 401 := by rw [i64_and2047]; omega
  have hand1 : bits .and .i64 a1 255 = (q1 : Int) := by rw [i64_and255, hq1]
  have HO7 : Hid (bits .and .i64 a2 7 = o7) := by show _ = _; rw [i64_and7, ho7]
  have HOR : Hid (0 ≤ o7 ∧ o7 ≤ 7) := by show 0 ≤ o7 ∧ o7 ≤ 7; omega
  have HOS : Hid (IntKind.i64.wrap (-1 - o7) = -1 - o7) := IntWalk.i64_in _ (by omega)
  have HN : Hid (401 ≤ n ∧ n ≤ 2448) := by show 401 ≤ n ∧ n ≤ 2448; omega
  have HN6 : Hid (n ≤ 1000000) := by show _ ≤ _; omega
  have hadd : IntKind.i64.wrap (401 + ((n : Int) - 401)) = (n : Int) := by rw [show 401 + ((n : Int) - 401) = (n : Int) by omega]; exact IntWalk.i64_in _ (by omega)
  clear hn hq1 ho7 w0 w1 w2
  go_enter Tryd.func11, Tryd.ntmps11
  go_wp2_with fail
  refine (head7_any w HT.out).mono ?_
  rintro e w1 ⟨rfl, hb1⟩
  have HB1 := Lib.hid hb1
  clear hb1
  go_wp2_with fail
  refine (text7_any n 1 HN6.out w1).mono ?_
  rintro e w2 ⟨s, rfl, hs, hb2⟩
  have HS := Lib.hid hs
  have HB2 := Lib.hid (HB1.out.trans (hb2.mono HB1.out.size))
  clear hs hb2 HB1
  go_wp2_with fail
  refine (new_any 140 w2).mono ?_
  rintro e w3 ⟨B, rfl, hd, hb3⟩
  have X3 : DevW w.heap.size (fun _ => False) w3 B (Dv.new ((140 : Nat) : Int)) := devw_new hd HB2.out.size (fun j hj => hj.elim) hb3.size
  have HB3 := Lib.hid (HB2.out.trans (hb3.mono HB2.out.size))
  obtain ⟨c1, n1, k1⟩ := new_calm 140 (by decide)
  have HC1 := Lib.hid c1
  have HN1 := Lib.hid n1
  have HK1 := Lib.hid k1
  have HO := Lib.hid (st_open (M := 140) (base := 0) X3 HC1.out HN1.out (by decide) (by decide) HB3.out.size (HT.out _ HB3.out))
  have hopn : opnC (cont (Dv.new ((140 : Nat) : Int))) 0 = (ls0, 0) := opnC_zero (fun ar n _ _ => by rw [cpC_rc0 (x := 0) (by rw [HK1.out])]; rfl)
  rw [hopn] at HO
  clear hopn X3 hd c1 n1 k1 hb3 HB2
  go_wp2_with fail
  refine HO.out.mono ?_
  rintro e w4 ⟨b, sv4, ar, rfl, hbb, har, S4, hb4⟩
  obtain rfl : ar = 0 := by simpa using har
  have HB4 := Lib.hid (HB3.out.trans (hb4.mono HB3.out.size))
  have hg : (ofL 3 3 s).Good := ofL_good2 ⟨by decide, by decide⟩ ⟨by decide, by decide⟩ (by have := HS.out; have := HN.out; omega)
  have HG := Lib.hid hg
  have HPT := Lib.hid (st_put 3 3 s S4 hg (by decide) (by have := HS.out; have := HN.out; omega) HB4.out.size (fun x hx => HT.out x (HB4.out.trans hx)))
  clear S4 hb4 hbb har hg HO HB3
  go_wp2_with fail
  refine HPT.out.mono ?_
  rintro e w5 ⟨rfl, E5, sv, D5, hE5, S5, k5, hb5, hk5, _⟩
  rw [show nxtA ls0 0 = 0 from rfl] at S5 k5
  have HS5 := Lib.hid S5
  have HB5 := Lib.hid (HB4.out.trans hb5)
  clear S5 k5 hb5 hk5 hE5 HPT HB4 HK1 HC1 HN1
  go_wp2_with fail
  refine (cut_any s (by have := HN.out; have := HS.out; omega) w5).mono ?_
  rintro e w6 ⟨v, rfl, hrow, hb6⟩
  obtain ⟨E6, _, S6, hown⟩ := HS5.out.growRow hrow hb6
  have HS6 := Lib.hid S6
  have HR6 := Lib.hid hrow
  have HB6 := Lib.hid (HB5.out.trans (hb6.mono HB5.out.size))
  have hlen := cutS_length s
  obtain ⟨N, hNN⟩ : ∃ N, N = (cutS s).length := ⟨_, rfl⟩
  have HN7 : Hid (2 ≤ N ∧ N ≤ 7 ∧ N = cutN s.size) := by show 2 ≤ N ∧ N ≤ 7 ∧ N = cutN s.size; unfold cutN at hlen ⊢; have := HS.out; have := HN.out; omega
  obtain ⟨g, gc, rfl, hgl, hg0⟩ := strs_at hrow 0 (by have := HN7.out; omega)
  have HEG : Hid (E6 g) := hown g rfl
  have HNN := Lib.hid hNN
  rw [← HNN.out]
  clear hrow hb6 HS5 HB5 hlen hNN S6 hown hg0
  obtain ⟨k, hk⟩ : ∃ k, k = q1 % N := ⟨_, rfl⟩
  have HKN : Hid (k < N) := by show k < N; rw [hk]; exact Nat.mod_lt _ (by have := HN7.out; omega)
  have hrem : (q1 : Int).tmod (N : Int) = (k : Int) := by rw [Int.tmod_eq_emod_of_nonneg (by omega), hk]; omega
  have hN0 : (N : Int) ≠ 0 := by have := HN7.out; omega
  have hN1 : ((N : Int) == 0) = false := beq_eq_false_iff_ne.2 hN0
  have hNm : ¬ (N : Int) = -1 := by omega
  have hadd2 : IntKind.i64.wrap (2 + (k : Int)) = 2 + (k : Int) := IntWalk.i64_in _ (by have := HKN.out; have := HN7.out; omega)
  -- the two variables that the closure holds
  have bP := (Below.refl w6.heap.size w6).alloc (Nat.le_refl _) (.cells #[.slice (some ⟨g, 0, none⟩) N gc] 63)
  have P7 : (w6.alloc (.cells #[.slice (some ⟨g, 0, none⟩) N gc] 63)).heap[w6.heap.size]? = some (.cells #[.slice (some ⟨g, 0, none⟩) N gc] 63 (0, 0)) := heap_alloc_new w6 _
  obtain ⟨pb, hpb⟩ : ∃ z, z = w6.heap.size := ⟨_, rfl⟩
  rw [← hpb] at P7
  go_upto_region 10 with fail
  rw [← hpb]
  obtain ⟨E7, hE7, S7, hEP⟩ : ∃ E7 : Nat → Prop, (∀ j, E6 j → E7 j) ∧ StC w.heap.size E7 (w6.alloc (.cells #[.slice (some ⟨g, 0, none⟩) N gc] 63)) b B 140 0 (ofL 3 3 s) sv 0 D5 ∧ E7 pb := ⟨_, fun j h => .inl h, HS6.out.grow bP, .inr ⟨by omega, lt_of_block P7⟩⟩
  generalize w6.alloc (.cells #[.slice (some ⟨g, 0, none⟩) N gc] 63) = w7 at bP P7 S7 ⊢
  have HS7 := Lib.hid S7
  have HB7 := Lib.hid (HB6.out.trans (bP.mono HB6.out.size))
  have HR7 := Lib.hid (World.ownsRow_below HR6.out bP)
  have HP7 := Lib.hid P7
  have HEG7 := Lib.hid (hE7 g HEG.out)
  have HEP7 := Lib.hid hEP
  have cp7 : w7.cell? ⟨pb, 0, none⟩ = some (.slice (some ⟨g, 0, none⟩) N gc) := cell_of P7 rfl
  clear bP P7 S7 hpb hE7 hEP HS6 HR6 HB6 HEG
  have bK := (Below.refl w7.heap.size w7).alloc (Nat.le_refl _) (.cells #[.int .i64 (k : Int)] 3)
  have K8 : (w7.alloc (.cells #[.int .i64 (k : Int)] 3)).heap[w7.heap.size]? = some (.cells #[.int .i64 (k : Int)] 3 (0, 0)) := heap_alloc_new w7 _
  obtain ⟨kb, hkb⟩ : ∃ z, z = w7.heap.size := ⟨_, rfl⟩
  rw [← hkb] at K8
  clear hk
  go_upto_region 11 with fail
  rw [← hkb]
  obtain ⟨E, hE8, S8, hEK⟩ : ∃ E : Nat → Prop, (∀ j, E7 j → E j) ∧ StC w.heap.size E (w7.alloc (.cells #[.int .i64 (k : Int)] 3)) b B 140 0 (ofL 3 3 s) sv 0 D5 ∧ E kb := ⟨_, fun j h => .inl h, HS7.out.grow bK, .inr ⟨by omega, lt_of_block K8⟩⟩
  generalize w7.alloc (.cells #[.int .i64 (k : Int)] 3) = w8 at bK K8 S8 ⊢
  have HS8 := Lib.hid S8
  have HB8 := Lib.hid (HB7.out.trans (bK.mono HB7.out.size))
  have HR8 := Lib.hid (World.ownsRow_below HR7.out bK)
  have HP8 : Hid (w8.heap[pb]? = _) := Lib.hid ((bK.block pb (lt_of_block HP7.out)).trans HP7.out)
  have HK8 := Lib.hid K8
  have HEG := Lib.hid (hE8 g HEG7.out)
  have HEP := Lib.hid (hE8 pb HEP7.out)
  have HEK := Lib.hid hEK
  have ck8 : w8.cell? ⟨kb, 0, none⟩ = some (.int .i64 (k : Int)) := cell_of K8 rfl
  have hlo := st_lose (2 + k) S8 (by have := HKN.out; have := HN7.out; omega) HB8.out.size
  rw [show ((2 + k : Nat) : Int) = 2 + (k : Int) by omega] at hlo
  have HLO := Lib.hid hlo
  clear bK K8 S8 hkb hE8 hEK hlo cp7 HS7 HR7 HB7 HP7 HEG7 HEP7
  go_wp2_with fail
  refine HLO.out.mono ?_
  rintro e w9 ⟨rfl, D9, S9, _, hb9, hk9, _⟩
  have HS9 := Lib.hid S9
  have HB9 := Lib.hid (HB8.out.trans hb9)
  have HR9 := Lib.hid (row_kept HR8.out hk9 (fun j hj => by obtain rfl : g = j := by simpa [Value.ownBlock] using hj
                                                            exact HEG.out))
  have HP9 : Hid (w9.heap[pb]? = _) := Lib.hid ((hk9 pb HEP.out).trans HP8.out)
  have HK9 : Hid (w9.heap[kb]? = _) := Lib.hid ((hk9 kb HEK.out).trans HK8.out)
  clear S9 hb9 hk9 HLO ck8 HS8 HB8 HR8 HP8 HK8
  have HCW : Hid (∀ (s2 : ByteArray), s2.size = n → ∀ (v2 : Value) (W2 : World) (bs : Nat), W2.ownsRow bs 9 1 v2 (cutS s2).length (strCells' (cutS s2)) → ∃ (g2 c2 : Nat) (x : ByteArray), v2 = .slice (some ⟨g2, 0, none⟩) N c2 ∧ g2 < W2.heap.size ∧ W2.cell? ⟨g2, k, none⟩ = some (.string x) ∧ x.size ≤ 400) := by
    refine Lib.hid ?_
    intro s2 hs2 v2 W2 bs hr
    have hl2 : (cutS s2).length = N := by rw [cutS_length, hs2]; have := HN7.out; have := HS.out; rw [this.symm]; omega
    have hkc : k < cutN s2.size := by rw [← cutS_length, hl2]; exact HKN.out
    obtain ⟨g2, c2, hv, h1, h2⟩ := strs_at hr k (by rw [hl2]; exact HKN.out)
    rw [hl2] at hv
    rw [cutS_at s2 hkc] at h2
    exact ⟨g2, c2, _, hv, h1, h2, (cut_size s2 hkc).2.2⟩
  have hb0 := HB9.out
  have HKB := Lib.hid (fun (W : World) (hb : Below w9.drew.heap.size w9.drew W) => ((((Below.refl _ w9).drew).trans hb).cell (p := ⟨kb, 0, none⟩) (lt_of_block HK9.out)).trans (cell_of HK9.out rfl : w9.cell? ⟨kb, 0, none⟩ = some (.int .i64 (k : Int))))
  go_upto_region 12 with fail
  go_cut [13] (fun v wx => ∃ wr : ByteArray, v = .string wr ∧ wr.size ≤ 400 ∧ Below w9.drew.heap.size w9.drew wx)
  case first =>
    refine wp_region_steps (atP [fun v _ => v = (.int .i64 (n : Int)),
      fun v W => ∃ s2 : ByteArray, v = .string s2 ∧ s2.size = n,
      fun v W => ∃ (g2 c2 : Nat) (x : ByteArray), v = .slice (some ⟨g2, 0, none⟩) N c2 ∧ g2 < W.heap.size ∧ W.cell? ⟨g2, k, none⟩ = some (.string x) ∧ x.size ≤ 400,
      fun v _ => v = (.int .i64 (k : Int)),
      fun v W => ∃ (g2 : Nat) (x : ByteArray), v = .pointer (some ⟨g2, k, none⟩) ∧ g2 < W.heap.size ∧ W.cell? ⟨g2, k, none⟩ = some (.string x) ∧ x.size ≤ 400,
      fun v W => ∃ x : ByteArray, v = .string x ∧ x.size ≤ 400,
      fun v W => ∃ x : ByteArray, v = .string x ∧ x.size ≤ 400]) (fun w w' => Below w.heap.size w w') (by kernel_rfl) (by kernel_rfl) (by kernel_rfl) (Below.refl _ _) (fun i v wa7 wb7 _ h1 h2 => atP_keep (R := fun w w' => Below w.heap.size w w') (atK1 (fun _ _ _ h _ => h) (atK1 (fun _ _ _ h _ => h) (atK1 (fun v w w' h hr => h.elim fun a h => h.elim fun b h => h.elim fun c h => ⟨a, b, c, h.1, Nat.lt_of_lt_of_le h.2.1 hr.size, (hr.cell (p := ⟨a, k, none⟩) h.2.1).trans h.2.2.1, h.2.2.2⟩) (atK1 (fun _ _ _ h _ => h) (atK1 (fun v w w' h hr => h.elim fun a h => h.elim fun c h => ⟨a, c, h.1, Nat.lt_of_lt_of_le h.2.1 hr.size, (hr.cell (p := ⟨a, k, none⟩) h.2.1).trans h.2.2.1, h.2.2.2⟩) (atK1 (fun _ _ _ h _ => h) (atK1 (fun _ _ _ h _ => h) (atK0)))))))) i h1 h2) (fun u v w h1 h2 => h1.trans (h2.mono h1.size)) ?_ ?_
    · intro q9 o ho x W1 hR hF
      match q9, ho with
      | 0, ho =>
        obtain rfl := Option.some.inj ho
        exact gstep_move rfl (wanted0 rfl) _ rfl _ (eval_of 0 _ (by kernel_rfl) rfl) ⟨_, rfl, rfl, Below.refl _ _⟩
      | 1, ho =>
        obtain rfl := Option.some.inj ho
        refine gstep_call2 rfl (wanted0 rfl) _ _ _ _ rfl _ _ (eval_at 48 0 _ (by kernel_rfl) (show 48 < 119 by decide) (hF 0 (by kernel_rfl))) rfl (by go_simp) ?_
        refine (text7_any n 2 HN6.out W1).mono ?_
        rintro e w2 ⟨s2, rfl, hs2, hb⟩
        exact ⟨_, rfl, _, rfl, ⟨s2, rfl, hs2⟩, hb⟩
      | 2, ho =>
        obtain rfl := Option.some.inj ho
        obtain ⟨s2, hx1, hs2⟩ := hF 1 (by kernel_rfl)
        refine gstep_call rfl (wanted0 rfl) _ _ _ rfl _ (eval_at 49 1 _ (by kernel_rfl) (show 49 < 119 by decide) hx1) (by go_simp) ?_
        refine (cut_any s2 (by have := HN6.out; omega) W1).mono ?_
        rintro e w2 ⟨v2, rfl, hrow2, hb⟩
        obtain ⟨g2, c2, x, y1, y2, y3, y4⟩ := HCW.out s2 hs2 v2 w2 _ hrow2
        exact ⟨_, rfl, _, rfl, ⟨g2, c2, x, y1, y2, y3, y4⟩, hb⟩
      | 3, ho =>
        obtain rfl := Option.some.inj ho
        exact gstep_load rfl (wanted0 rfl) _ _ rfl _ (eval_of 12 _ (by kernel_rfl) rfl) _ (run_loadI W1 _ _ (HKB.out W1 hR)) ⟨_, rfl, rfl, Below.refl _ _⟩
      | 4, ho =>
        obtain rfl := Option.some.inj ho
        obtain ⟨g2, c2, x, y1, y2, y3, y4⟩ := hF 2 (by kernel_rfl)
        exact gstep_index rfl (wanted0 rfl) _ _ _ rfl _ _ (eval_at 50 2 _ (by kernel_rfl) (show 50 < 119 by decide) y1) (eval_at 51 3 _ (by kernel_rfl) (show 51 < 119 by decide) (hF 3 (by kernel_rfl))) _ (run_ixSs W1 _ _ _ _ HKN.out) ⟨_, rfl, ⟨g2, x, rfl, y2, y3, y4⟩, Below.refl _ _⟩
      | 5, ho =>
        obtain rfl := Option.some.inj ho
        obtain ⟨g2, x, y1, y2, y3, y4⟩ := hF 4 (by kernel_rfl)
        exact gstep_load rfl (wanted0 rfl) _ _ rfl _ (eval_at 52 4 _ (by kernel_rfl) (show 52 < 119 by decide) y1) _ (run_loadS W1 _ _ y3) ⟨_, rfl, ⟨x, rfl, y4⟩, Below.refl _ _⟩
      | 6, ho =>
        obtain rfl := Option.some.inj ho
        obtain ⟨x, y1, y4⟩ := hF 5 (by kernel_rfl)
        exact gstep_assign rfl (wanted0 rfl) _ rfl _ (eval_at 53 5 _ (by kernel_rfl) (show 53 < 119 by decide) y1) ⟨_, rfl, ⟨x, rfl, y4⟩, Below.refl _ _⟩
      | n + 7, ho => simp at ho
    · intro x w5 hR hF
      obtain ⟨wr, hwr1, hwr2⟩ := hF 6 (by decide)
      simp only [putAll, Act.put, List.setIfInBounds_toArray, List.set_cons_succ, List.set_cons_zero]
      generalize x 6 = v6 at hwr1 ⊢
      have hwr1' : v6 = .string wr := hwr1
      subst hwr1'
      have B5 := hR
      clear hF hwr1
      go_wp2_with fail
      go_meet
      exact ⟨wr, rfl, hwr2, B5⟩
  case rest =>
    obtain ⟨wr, rfl, hwr, hb10⟩ := hcut
    have HWR0 := Lib.hid hwr
    have HX10 := Lib.hid (((Below.refl _ w9).drew).trans hb10)
    clear hwr hb10 HKB hb0
    obtain ⟨kp, hkp⟩ : ∃ z : Nat, z = k + 1 := ⟨_, rfl⟩
    obtain ⟨k1, hk1⟩ : ∃ z, z = kp % N := ⟨_, rfl⟩
    have HK1N : Hid (k1 < N) := by show k1 < N; rw [hk1]; exact Nat.mod_lt _ (by have := HN7.out; omega)
    have HRM : Hid (((k : Int) + 1).tmod (N : Int) = (k1 : Int)) := by show _ = _; rw [show (k : Int) + 1 = (kp : Int) by omega, Int.tmod_eq_emod_of_nonneg (by omega), hk1]; omega
    have HR0 : Hid ((N : Int) ≠ 0) := hN0
    have HA1 : Hid (IntKind.i64.wrap ((k : Int) + 1) = (k : Int) + 1) := IntWalk.i64_in _ (by have := HKN.out; have := HN7.out; omega)
    obtain ⟨nx, hnx⟩ : ∃ nx, nx = cutAt s k1 := ⟨_, rfl⟩
    have hk1c : k1 < cutN s.size := by have := HK1N.out; have := HN7.out; omega
    have hkc : k < cutN s.size := by have := HKN.out; have := HN7.out; omega
    have HNX0 : Hid (nx.size ≤ 400) := by show _ ≤ _; rw [hnx]; exact (cut_size s hk1c).2.2
    have HKC := Lib.hid hkc
    have hgat : ∀ j, j < cutN s.size → w9.cell? ⟨g, j, none⟩ = some (.string (cutAt s j)) ∧ g < w9.heap.size := fun j hj => by
      obtain ⟨g', c', hv, h1, h2⟩ := strs_at HR9.out j (by rw [cutS_length]; exact hj)
      injection hv with e1 _ _
      injection e1 with e1
      injection e1 with e1 _ _
      subst e1
      rw [cutS_at s hj] at h2
      exact ⟨h2, h1⟩
    have HGA := Lib.hid hgat
    have HKB2 := Lib.hid (fun (W : World) (hb : Below wc.drew.heap.size wc.drew W) => ((HX10.out.trans ((((Below.refl _ wc).drew).trans hb).mono HX10.out.size)).cell (p := ⟨kb, 0, none⟩) (lt_of_block HK9.out)).trans (cell_of HK9.out rfl : w9.cell? ⟨kb, 0, none⟩ = some (.int .i64 (k : Int))))
    have HPB2 := Lib.hid (fun (W : World) (hb : Below wc.drew.heap.size wc.drew W) => ((HX10.out.trans ((((Below.refl _ wc).drew).trans hb).mono HX10.out.size)).cell (p := ⟨pb, 0, none⟩) (lt_of_block HP9.out)).trans (cell_of HP9.out rfl : w9.cell? ⟨pb, 0, none⟩ = some (.slice (some ⟨g, 0, none⟩) N gc)))
    have hg1 : w9.cell? ⟨g, k1, none⟩ = some (.string nx) := by rw [hnx]; exact (hgat k1 hk1c).1
    have HG1 := Lib.hid (fun (W : World) (hb : Below wc.drew.heap.size wc.drew W) => ((HX10.out.trans ((((Below.refl _ wc).drew).trans hb).mono HX10.out.size)).cell (p := ⟨g, k1, none⟩) (hgat k1 hk1c).2).trans hg1)
    clear hkp hk1 hnx hk1c hkc hgat hg1
    go_upto_region 13 with fail
    go_cut [14] (fun v wx => v = .string nx ∧ Below wc.drew.heap.size wc.drew wx)
    case first =>
      refine wp_region_steps (atP [fun v _ => v = (.slice (some ⟨g, 0, none⟩) N gc),
        fun v _ => v = (.int .i64 (k : Int)),
        fun v _ => v = (.int .i64 ((k : Int) + 1)),
        fun v _ => v = (.slice (some ⟨g, 0, none⟩) N gc),
        fun v _ => v = (.int .i64 (N : Int)),
        fun v _ => v = (.int .i64 (k1 : Int)),
        fun v _ => v = (.pointer (some ⟨g, k1, none⟩)),
        fun v _ => v = (.string nx),
        fun v _ => v = (.string nx)]) (fun w w' => Below w.heap.size w w') (by kernel_rfl) (by kernel_rfl) (by kernel_rfl) (Below.refl _ _) (fun i v wa7 wb7 _ h1 h2 => atP_keep (R := fun w w' => Below w.heap.size w w') (atK1 (fun _ _ _ h _ => h) (atK1 (fun _ _ _ h _ => h) (atK1 (fun _ _ _ h _ => h) (atK1 (fun _ _ _ h _ => h) (atK1 (fun _ _ _ h _ => h) (atK1 (fun _ _ _ h _ => h) (atK1 (fun _ _ _ h _ => h) (atK1 (fun _ _ _ h _ => h) (atK1 (fun _ _ _ h _ => h) (atK0)))))))))) i h1 h2) (fun u v w h1 h2 => h1.trans (h2.mono h1.size)) ?_ ?_
      · intro q9 o ho x W1 hR hF
        match q9, ho with
        | 0, ho =>
          obtain rfl := Option.some.inj ho
          exact gstep_load rfl (wanted0 rfl) _ _ rfl _ (eval_of 11 _ (by kernel_rfl) rfl) _ (run_loadSs W1 _ _ _ _ (HPB2.out W1 hR)) ⟨_, rfl, rfl, Below.refl _ _⟩
        | 1, ho =>
          obtain rfl := Option.some.inj ho
          exact gstep_load rfl (wanted0 rfl) _ _ rfl _ (eval_of 12 _ (by kernel_rfl) rfl) _ (run_loadI W1 _ _ (HKB2.out W1 hR)) ⟨_, rfl, rfl, Below.refl _ _⟩
        | 2, ho =>
          obtain rfl := Option.some.inj ho
          exact gstep_bin rfl (wanted0 rfl) _ _ _ _ _ rfl _ _ (eval_at 55 1 _ (by kernel_rfl) (show 55 < 119 by decide) (hF 1 (by kernel_rfl))) rfl _ (run_addI W1 _ _ _ HA1.out _ _) ⟨_, rfl, rfl, Below.refl _ _⟩
        | 3, ho =>
          obtain rfl := Option.some.inj ho
          exact gstep_load rfl (wanted0 rfl) _ _ rfl _ (eval_of 11 _ (by kernel_rfl) rfl) _ (run_loadSs W1 _ _ _ _ (HPB2.out W1 hR)) ⟨_, rfl, rfl, Below.refl _ _⟩
        | 4, ho =>
          obtain rfl := Option.some.inj ho
          exact gstep_lenLSs rfl (wanted0 rfl) _ rfl _ _ _ (eval_at 57 3 _ (by kernel_rfl) (show 57 < 119 by decide) (hF 3 (by kernel_rfl))) ⟨_, rfl, rfl, Below.refl _ _⟩
        | 5, ho =>
          obtain rfl := Option.some.inj ho
          exact gstep_bin rfl (wanted0 rfl) _ _ _ _ _ rfl _ _ (eval_at 56 2 _ (by kernel_rfl) (show 56 < 119 by decide) (hF 2 (by kernel_rfl))) (eval_at 58 4 _ (by kernel_rfl) (show 58 < 119 by decide) (hF 4 (by kernel_rfl))) _ (run_remI W1 _ _ _ HR0.out HRM.out _ _) ⟨_, rfl, rfl, Below.refl _ _⟩
        | 6, ho =>
          obtain rfl := Option.some.inj ho
          exact gstep_index rfl (wanted0 rfl) _ _ _ rfl _ _ (eval_at 54 0 _ (by kernel_rfl) (show 54 < 119 by decide) (hF 0 (by kernel_rfl))) (eval_at 59 5 _ (by kernel_rfl) (show 59 < 119 by decide) (hF 5 (by kernel_rfl))) _ (run_ixSs W1 _ _ _ _ HK1N.out) ⟨_, rfl, rfl, Below.refl _ _⟩
        | 7, ho =>
          obtain rfl := Option.some.inj ho
          exact gstep_load rfl (wanted0 rfl) _ _ rfl _ (eval_at 60 6 _ (by kernel_rfl) (show 60 < 119 by decide) (hF 6 (by kernel_rfl))) _ (run_loadS W1 _ _ (HG1.out W1 hR)) ⟨_, rfl, rfl, Below.refl _ _⟩
        | 8, ho =>
          obtain rfl := Option.some.inj ho
          exact gstep_assign rfl (wanted0 rfl) _ rfl _ (eval_at 61 7 _ (by kernel_rfl) (show 61 < 119 by decide) (hF 7 (by kernel_rfl))) ⟨_, rfl, rfl, Below.refl _ _⟩
        | n + 9, ho => simp at ho
      · intro x w5 hR hF
        have h8 := hF 8 (by decide)
        simp only [putAll, Act.put, List.setIfInBounds_toArray, List.set_cons_succ, List.set_cons_zero]
        generalize x 8 = v8 at h8 ⊢
        have h8' : v8 = .string nx := h8
        subst h8'
        have B5 := hR
        clear hF h8
        go_wp2_with fail
        go_meet
        exact ⟨rfl, B5⟩
    case rest =>
      obtain ⟨rfl, hb11⟩ := hcut
      have hX := HX10.out.trans ((((Below.refl _ _).drew).trans hb11).mono HX10.out.size)
      have HX11 : Hid (Below w9.heap.size w9 wc) := Lib.hid hX
      obtain ⟨p, hp⟩ : ∃ p, p = cutAt s k := ⟨_, rfl⟩
      have hps := cut_size s HKC.out
      rw [← hp] at hps
      obtain ⟨p1, hp1⟩ : ∃ p1, p1 = p.extract 1 p.size := ⟨_, rfl⟩
      have hp1s : p1.size = p.size - 1 := by rw [hp1, ByteArray.size_extract]; omega
      obtain ⟨BW, hBW⟩ : ∃ z, matchB (ofL 3 3 s) k wr = z := ⟨_, rfl⟩
      obtain ⟨BN, hBN⟩ : ∃ z, matchB (ofL 3 3 s) k nx = z := ⟨_, rfl⟩
      have HBW := Lib.hid hBW
      have HBN := Lib.hid hBN
      have HBW2 : Hid (decide (wr.size = p.size ∧ addN 0 wr.data.toList = addN 0 p.data.toList) = BW) := by show _ = _; rw [← hBW, match_like 3 3 s wr HKC.out, hp]
      have HBN2 : Hid (decide (nx.size = p.size ∧ addN 0 nx.data.toList = addN 0 p.data.toList) = BN) := by show _ = _; rw [← hBN, match_like 3 3 s nx HKC.out, hp]
      have HB1 : Hid (matchB (ofL 3 3 s) k p1 = false) := by
        show _ = false
        rw [match_like 3 3 s p1 HKC.out, ← hp]
        exact decide_eq_false (fun h => by have := h.1; omega)
      have HSL := Lib.hid (fun (W : World) => show (Instr.sliceAt 9 (.string p) (some (.int .i64 1)) none none).run Tryd.prog W = .ok (.string p1) W from by rw [hp1]; exact run_cut1 W p hps.2.1)
      have hmx : ∀ c : ByteArray, c.size ≤ 400 → c.size ≤ maxLen := fun c h => by unfold maxLen; omega
      have HWR := Lib.hid (hmx wr HWR0.out)
      have HNX := Lib.hid (hmx nx HNX0.out)
      have HP1 := Lib.hid (hmx p1 (by omega))
      have HPP := Lib.hid (hmx p (by omega))
      have S11 := HS9.out.below HX11.out
      have HEX : Hid (∀ j, E j → j < wc.heap.size) := S11.dev.lt
      have HBF : Hid (Below w.heap.size w wc.drew) := Lib.hid (HB9.out.trans (HX11.out.mono HB9.out.size)).drew
      have HST := Lib.hid (show ∃ D, StC w.heap.size E wc.drew b B 140 0 (ofL 3 3 s) sv 0 D from ⟨_, S11.below (x := wc.drew) ((Below.refl _ wc).drew)⟩)
      have hcell : ∀ (q : Addr) (v : Value), E q.block → w9.cell? q = some v → ∀ (W : World), RM w.heap.size E b B 140 0 (ofL 3 3 s) sv 0 wc.drew W → W.cell? q = some v := fun q v hE h W hR =>
        (hR.kept.cell hE).trans ((HX11.out.cell (p := q) (HS9.out.dev.lt _ hE)).trans h)
      have HKB := Lib.hid (hcell ⟨kb, 0, none⟩ _ HEK.out (cell_of HK9.out rfl : w9.cell? ⟨kb, 0, none⟩ = some (.int .i64 (k : Int))))
      have HPB := Lib.hid (hcell ⟨pb, 0, none⟩ _ HEP.out (cell_of HP9.out rfl : w9.cell? ⟨pb, 0, none⟩ = some (.slice (some ⟨g, 0, none⟩) N gc)))
      have hgk : w9.cell? ⟨g, k, none⟩ = some (.string p) := by rw [hp]; exact (HGA.out k HKC.out).1
      have HGC := Lib.hid (hcell ⟨g, k, none⟩ _ HEG.out hgk)
      have HRS := Lib.hid (fun (W : World) (hR : RM w.heap.size E b B 140 0 (ofL 3 3 s) sv 0 wc.drew W) => show w.heap.size ≤ W.heap.size from (HBF.out.trans hR.below).size)
      have HRE := Lib.hid (fun (W : World) (hR : RM w.heap.size E b B 140 0 (ofL 3 3 s) sv 0 wc.drew W) => show ∀ j, E j → j < W.heap.size from fun j hj => Nat.lt_of_lt_of_le (HEX.out j hj) (show wc.drew.heap.size ≤ W.heap.size from hR.below.size))
      have HTW := Lib.hid (fun (W : World) (hR : RM w.heap.size E b B 140 0 (ofL 3 3 s) sv 0 wc.drew W) => HT.out W (HBF.out.trans hR.below))
      have HMD := Lib.hid (fun (W : World) (hR : RM w.heap.size E b B 140 0 (ofL 3 3 s) sv 0 wc.drew W) (c : ByteArray) (hc : c.size ≤ maxLen) =>
        show Calls Tryd.prog 46 #[.pointer (some ⟨b, 0, none⟩), .int .i64 (k : Int), .string c] W fun e w' => e = .returned (.int .i64 (if matchB (ofL 3 3 s) k c = true then 0 else 1)) ∧ RM w.heap.size E b B 140 0 (ofL 3 3 s) sv 0 W w' from by
          obtain ⟨D, hD⟩ := hR.st HST.out
          refine (st_mend k c hD HG.out (by rw [ofL_sums]; exact HKC.out) hc (HRS.out W hR) (fun x hx => HT.out x ((HBF.out.trans hR.below).trans hx))).mono ?_
          rintro e w' ⟨rfl, D', hs, hb, hk, _⟩
          exact ⟨rfl, ⟨hb, hk, fun _ => ⟨D', hs⟩⟩⟩)
      have HMN := Lib.hid (fun (W : World) (hR : RM w.heap.size E b B 140 0 (ofL 3 3 s) sv 0 wc.drew W) (kk : Int) (c : ByteArray) (h : (-9223372036854775808 ≤ kk ∧ kk ≤ 9223372036854775807) ∧ ¬ (0 ≤ kk ∧ kk < ((ofL 3 3 s).sums.length : Int))) =>
        show Calls Tryd.prog 46 #[.pointer (some ⟨b, 0, none⟩), .int .i64 kk, .string c] W fun e w' => e = .returned (.int .i64 1) ∧ W = w' from by
          obtain ⟨D, hD⟩ := hR.st HST.out
          exact st_mend_no kk c hD h.1 h.2)
      have HNI : Hid ((-9223372036854775808 ≤ (N : Int) ∧ (N : Int) ≤ 9223372036854775807) ∧ ¬ (0 ≤ (N : Int) ∧ (N : Int) < ((ofL 3 3 s).sums.length : Int))) := by
        refine Lib.hid ⟨by have := HN7.out; omega, ?_⟩
        rw [ofL_sums]
        have := HN7.out
        omega
      have HNJ : Hid ((-9223372036854775808 ≤ (-1 - o7) ∧ (-1 - o7) ≤ 9223372036854775807) ∧ ¬ (0 ≤ (-1 - o7) ∧ (-1 - o7) < ((ofL 3 3 s).sums.length : Int))) := Lib.hid ⟨by have := HOR.out; omega, by have := HOR.out; omega⟩
      have HLK := Lib.hid (fun (W : World) (hR : RM w.heap.size E b B 140 0 (ofL 3 3 s) sv 0 wc.drew W) (x : ByteArray) (hx : x.size ≤ maxLen) => like_any x (HPB.out W hR) (HKB.out W hR) (HGC.out W hR) HKN.out ⟨HRE.out W hR _ HEP.out, HRE.out W hR _ HEK.out, HRE.out W hR _ HEG.out⟩ hx HPP.out (HTW.out W hR))
      clear hX hb11 hp hps hp1 hp1s hBW hBN hmx S11 hcell hgk
      go_upto_region 15 with fail
      refine wp_region_steps (atP [fun v _ => v = (.pointer (some ⟨b, 0, none⟩)),
        fun v _ => v = (.int .i64 (k : Int)),
        fun v _ => v = (.string wr),
        fun v _ => v = (.int .i64 (if BW = true then 0 else 1)),
        fun v _ => v = (.bool (!BW)),
        fun v _ => v = (.func (.func 49) #[] #[.pointer (some ⟨pb, 0, none⟩), .pointer (some ⟨kb, 0, none⟩)]),
        fun v _ => v = (.string wr),
        fun v _ => v = (.bool BW),
        fun v _ => v = (.bool (!BW)),
        fun v _ => v = (.bool true),
        fun v _ => v = (.bool true),
        fun v _ => v = (.pointer (some ⟨b, 0, none⟩)),
        fun v _ => v = (.int .i64 (k : Int)),
        fun v _ => v = (.string nx),
        fun v _ => v = (.int .i64 (if BN = true then 0 else 1)),
        fun v _ => v = (.bool (!BN)),
        fun v _ => v = (.func (.func 49) #[] #[.pointer (some ⟨pb, 0, none⟩), .pointer (some ⟨kb, 0, none⟩)]),
        fun v _ => v = (.string nx),
        fun v _ => v = (.bool BN),
        fun v _ => v = (.bool (!BN)),
        fun v _ => v = (.bool true),
        fun v _ => v = (.bool true),
        fun v _ => v = (.bool true),
        fun v _ => v = (.pointer (some ⟨b, 0, none⟩)),
        fun v _ => v = (.int .i64 (k : Int)),
        fun v _ => v = (.slice (some ⟨g, 0, none⟩) N gc),
        fun v _ => v = (.int .i64 (k : Int)),
        fun v _ => v = (.pointer (some ⟨g, k, none⟩)),
        fun v _ => v = (.string p),
        fun v _ => v = (.string p1),
        fun v _ => v = (.int .i64 1),
        fun v _ => v = (.bool true),
        fun v _ => v = (.bool true),
        fun v _ => v = (.bool true),
        fun v _ => v = (.pointer (some ⟨b, 0, none⟩)),
        fun v _ => v = (.slice (some ⟨g, 0, none⟩) N gc),
        fun v _ => v = (.int .i64 (N : Int)),
        fun v _ => v = (.slice (some ⟨g, 0, none⟩) N gc),
        fun v _ => v = (.int .i64 (k : Int)),
        fun v _ => v = (.pointer (some ⟨g, k, none⟩)),
        fun v _ => v = (.string p),
        fun v _ => v = (.int .i64 1),
        fun v _ => v = (.bool true),
        fun v _ => v = (.bool true),
        fun v _ => v = (.bool true),
        fun v _ => v = (.pointer (some ⟨b, 0, none⟩)),
        fun v _ => v = (.int .i64 a2),
        fun v _ => v = (.int .i64 o7),
        fun v _ => v = (.int .i64 (-1 - o7)),
        fun v _ => v = (.slice (some ⟨g, 0, none⟩) N gc),
        fun v _ => v = (.int .i64 (k : Int)),
        fun v _ => v = (.pointer (some ⟨g, k, none⟩)),
        fun v _ => v = (.string p),
        fun v _ => v = (.int .i64 1),
        fun v _ => v = (.bool true),
        fun v _ => v = (.bool true),
        fun v _ => v = (.bool true)]) (RM w.heap.size E b B 140 0 (ofL 3 3 s) sv 0) (by kernel_rfl) (by kernel_rfl) (by kernel_rfl) (RM.refl _) (fun i v wa7 wb7 _ h1 h2 => atP_keep (R := RM w.heap.size E b B 140 0 (ofL 3 3 s) sv 0) (atK1 (fun _ _ _ h _ => h) (atK1 (fun _ _ _ h _ => h) (atK1 (fun _ _ _ h _ => h) (atK1 (fun _ _ _ h _ => h) (atK1 (fun _ _ _ h _ => h) (atK1 (fun _ _ _ h _ => h) (atK1 (fun _ _ _ h _ => h) (atK1 (fun _ _ _ h _ => h) (atK1 (fun _ _ _ h _ => h) (atK1 (fun _ _ _ h _ => h) (atK1 (fun _ _ _ h _ => h) (atK1 (fun _ _ _ h _ => h) (atK1 (fun _ _ _ h _ => h) (atK1 (fun _ _ _ h _ => h) (atK1 (fun _ _ _ h _ => h) (atK1 (fun _ _ _ h _ => h) (atK1 (fun _ _ _ h _ => h) (atK1 (fun _ _ _ h _ => h) (atK1 (fun _ _ _ h _ => h) (atK1 (fun _ _ _ h _ => h) (atK1 (fun _ _ _ h _ => h) (atK1 (fun _ _ _ h _ => h) (atK1 (fun _ _ _ h _ => h) (atK1 (fun _ _ _ h _ => h) (atK1 (fun _ _ _ h _ => h) (atK1 (fun _ _ _ h _ => h) (atK1 (fun _ _ _ h _ => h) (atK1 (fun _ _ _ h _ => h) (atK1 (fun _ _ _ h _ => h) (atK1 (fun _ _ _ h _ => h) (atK1 (fun _ _ _ h _ => h) (atK1 (fun _ _ _ h _ => h) (atK1 (fun _ _ _ h _ => h) (atK1 (fun _ _ _ h _ => h) (atK1 (fun _ _ _ h _ => h) (atK1 (fun _ _ _ h _ => h) (atK1 (fun _ _ _ h _ => h) (atK1 (fun _ _ _ h _ => h) (atK1 (fun _ _ _ h _ => h) (atK1 (fun _ _ _ h _ => h) (atK1 (fun _ _ _ h _ => h) (atK1 (fun _ _ _ h _ => h) (atK1 (fun _ _ _ h _ => h) (atK1 (fun _ _ _ h _ => h) (atK1 (fun _ _ _ h _ => h) (atK1 (fun _ _ _ h _ => h) (atK1 (fun _ _ _ h _ => h) (atK1 (fun _ _ _ h _ => h) (atK1 (fun _ _ _ h _ => h) (atK1 (fun _ _ _ h _ => h) (atK1 (fun _ _ _ h _ => h) (atK1 (fun _ _ _ h _ => h) (atK1 (fun _ _ _ h _ => h) (atK1 (fun _ _ _ h _ => h) (atK1 (fun _ _ _ h _ => h) (atK1 (fun _ _ _ h _ => h) (atK1 (fun _ _ _ h _ => h) (atK0)))))))))))))))))))))))))))))))))))))))))))))))))))))))))) i h1 h2) (fun u v w h1 h2 => RM.trans h1 h2) ?_ ?_
      · intro q9 o ho x W1 hR hF
        match q9, ho with
        | 0, ho =>
          obtain rfl := Option.some.inj ho
          exact gstep_move rfl (wanted0 rfl) _ rfl _ (eval_of 9 _ (by kernel_rfl) rfl) ⟨_, rfl, rfl, RM.refl _⟩
        | 1, ho =>
          obtain rfl := Option.some.inj ho
          exact gstep_load rfl (wanted0 rfl) _ _ rfl _ (eval_of 12 _ (by kernel_rfl) rfl) _ (run_loadI W1 _ _ (HKB.out W1 hR)) ⟨_, rfl, rfl, RM.refl _⟩
        | 2, ho =>
          obtain rfl := Option.some.inj ho
          exact gstep_move rfl (wanted0 rfl) _ rfl _ (eval_of 13 _ (by kernel_rfl) rfl) ⟨_, rfl, rfl, RM.refl _⟩
        | 3, ho =>
          obtain rfl := Option.some.inj ho
          refine gstep_call3 rfl (wanted0 rfl) _ _ _ _ _ rfl _ _ _ (eval_at 63 0 _ (by kernel_rfl) (show 63 < 119 by decide) (hF 0 (by kernel_rfl))) (eval_at 64 1 _ (by kernel_rfl) (show 64 < 119 by decide) (hF 1 (by kernel_rfl))) (eval_at 65 2 _ (by kernel_rfl) (show 65 < 119 by decide) (hF 2 (by kernel_rfl))) (by go_simp) ?_
          refine (HMD.out W1 hR wr HWR.out).mono ?_
          rintro e w2 ⟨rfl, hx⟩
          exact ⟨_, rfl, _, rfl, (by rw [HBW.out]; rfl), hx⟩
        | 4, ho =>
          obtain rfl := Option.some.inj ho
          exact gstep_bin rfl (wanted0 rfl) _ _ _ _ _ rfl _ _ (eval_at 66 3 _ (by kernel_rfl) (show 66 < 119 by decide) (hF 3 (by kernel_rfl))) rfl _ (run_eqE W1 _ _ _ (by cases BW <;> rfl) _ _) ⟨_, rfl, rfl, RM.refl _⟩
        | 5, ho =>
          obtain rfl := Option.some.inj ho
          exact gstep_move rfl (wanted0 rfl) _ rfl _ (eval_of 15 _ (by kernel_rfl) rfl) ⟨_, rfl, rfl, RM.refl _⟩
        | 6, ho =>
          obtain rfl := Option.some.inj ho
          exact gstep_move rfl (wanted0 rfl) _ rfl _ (eval_of 13 _ (by kernel_rfl) rfl) ⟨_, rfl, rfl, RM.refl _⟩
        | 7, ho =>
          obtain rfl := Option.some.inj ho
          refine gstep_callC rfl (wanted0 rfl) _ _ _ _ _ _ rfl (eval_at 68 5 _ (by kernel_rfl) (show 68 < 119 by decide) (hF 5 (by kernel_rfl))) _ (eval_at 69 6 _ (by kernel_rfl) (show 69 < 119 by decide) (hF 6 (by kernel_rfl))) (by go_simp) ?_
          refine (HLK.out W1 hR wr HWR.out).mono ?_
          rintro e w2 ⟨rfl, hb⟩
          exact ⟨_, rfl, _, rfl, (by rw [HBW2.out]; rfl), RM.of_below hb (HRS.out W1 hR) (HRE.out W1 hR)⟩
        | 8, ho =>
          obtain rfl := Option.some.inj ho
          exact gstep_not rfl (wanted0 rfl) _ _ rfl _ (eval_at 70 7 _ (by kernel_rfl) (show 70 < 119 by decide) (hF 7 (by kernel_rfl))) ⟨_, rfl, rfl, RM.refl _⟩
        | 9, ho =>
          obtain rfl := Option.some.inj ho
          exact gstep_bin rfl (wanted0 rfl) _ _ _ _ _ rfl _ _ (eval_at 67 4 _ (by kernel_rfl) (show 67 < 119 by decide) (hF 4 (by kernel_rfl))) (eval_at 71 8 _ (by kernel_rfl) (show 71 < 119 by decide) (hF 8 (by kernel_rfl))) _ (run_eqB W1 _ _ _ (by simp) _ _) ⟨_, rfl, rfl, RM.refl _⟩
        | 10, ho =>
          obtain rfl := Option.some.inj ho
          exact gstep_move rfl (wanted0 rfl) _ rfl _ (eval_at 72 9 _ (by kernel_rfl) (show 72 < 119 by decide) (hF 9 (by kernel_rfl))) ⟨_, rfl, rfl, RM.refl _⟩
        | 11, ho =>
          obtain rfl := Option.some.inj ho
          exact gstep_move rfl (wanted_at 73 10 true _ true rfl (by kernel_rfl) (show 73 < 119 by decide) (hF 10 (by kernel_rfl)) rfl) _ rfl _ (eval_of 9 _ (by kernel_rfl) rfl) ⟨_, rfl, rfl, RM.refl _⟩
        | 12, ho =>
          obtain rfl := Option.some.inj ho
          exact gstep_load rfl (wanted_at 73 10 true _ true rfl (by kernel_rfl) (show 73 < 119 by decide) (hF 10 (by kernel_rfl)) rfl) _ _ rfl _ (eval_of 12 _ (by kernel_rfl) rfl) _ (run_loadI W1 _ _ (HKB.out W1 hR)) ⟨_, rfl, rfl, RM.refl _⟩
        | 13, ho =>
          obtain rfl := Option.some.inj ho
          exact gstep_move rfl (wanted_at 73 10 true _ true rfl (by kernel_rfl) (show 73 < 119 by decide) (hF 10 (by kernel_rfl)) rfl) _ rfl _ (eval_of 14 _ (by kernel_rfl) rfl) ⟨_, rfl, rfl, RM.refl _⟩
        | 14, ho =>
          obtain rfl := Option.some.inj ho
          refine gstep_call3 rfl (wanted_at 73 10 true _ true rfl (by kernel_rfl) (show 73 < 119 by decide) (hF 10 (by kernel_rfl)) rfl) _ _ _ _ _ rfl _ _ _ (eval_at 74 11 _ (by kernel_rfl) (show 74 < 119 by decide) (hF 11 (by kernel_rfl))) (eval_at 75 12 _ (by kernel_rfl) (show 75 < 119 by decide) (hF 12 (by kernel_rfl))) (eval_at 76 13 _ (by kernel_rfl) (show 76 < 119 by decide) (hF 13 (by kernel_rfl))) (by go_simp) ?_
          refine (HMD.out W1 hR nx HNX.out).mono ?_
          rintro e w2 ⟨rfl, hx⟩
          exact ⟨_, rfl, _, rfl, (by rw [HBN.out]; rfl), hx⟩
        | 15, ho =>
          obtain rfl := Option.some.inj ho
          exact gstep_bin rfl (wanted_at 73 10 true _ true rfl (by kernel_rfl) (show 73 < 119 by decide) (hF 10 (by kernel_rfl)) rfl) _ _ _ _ _ rfl _ _ (eval_at 77 14 _ (by kernel_rfl) (show 77 < 119 by decide) (hF 14 (by kernel_rfl))) rfl _ (run_eqE W1 _ _ _ (by cases BN <;> rfl) _ _) ⟨_, rfl, rfl, RM.refl _⟩
        | 16, ho =>
          obtain rfl := Option.some.inj ho
          exact gstep_move rfl (wanted_at 73 10 true _ true rfl (by kernel_rfl) (show 73 < 119 by decide) (hF 10 (by kernel_rfl)) rfl) _ rfl _ (eval_of 15 _ (by kernel_rfl) rfl) ⟨_, rfl, rfl, RM.refl _⟩
        | 17, ho =>
          obtain rfl := Option.some.inj ho
          exact gstep_move rfl (wanted_at 73 10 true _ true rfl (by kernel_rfl) (show 73 < 119 by decide) (hF 10 (by kernel_rfl)) rfl) _ rfl _ (eval_of 14 _ (by kernel_rfl) rfl) ⟨_, rfl, rfl, RM.refl _⟩
        | 18, ho =>
          obtain rfl := Option.some.inj ho
          refine gstep_callC rfl (wanted_at 73 10 true _ true rfl (by kernel_rfl) (show 73 < 119 by decide) (hF 10 (by kernel_rfl)) rfl) _ _ _ _ _ _ rfl (eval_at 79 16 _ (by kernel_rfl) (show 79 < 119 by decide) (hF 16 (by kernel_rfl))) _ (eval_at 80 17 _ (by kernel_rfl) (show 80 < 119 by decide) (hF 17 (by kernel_rfl))) (by go_simp) ?_
          refine (HLK.out W1 hR nx HNX.out).mono ?_
          rintro e w2 ⟨rfl, hb⟩
          exact ⟨_, rfl, _, rfl, (by rw [HBN2.out]; rfl), RM.of_below hb (HRS.out W1 hR) (HRE.out W1 hR)⟩
        | 19, ho =>
          obtain rfl := Option.some.inj ho
          exact gstep_not rfl (wanted_at 73 10 true _ true rfl (by kernel_rfl) (show 73 < 119 by decide) (hF 10 (by kernel_rfl)) rfl) _ _ rfl _ (eval_at 81 18 _ (by kernel_rfl) (show 81 < 119 by decide) (hF 18 (by kernel_rfl))) ⟨_, rfl, rfl, RM.refl _⟩
        | 20, ho =>
          obtain rfl := Option.some.inj ho
          exact gstep_bin rfl (wanted_at 73 10 true _ true rfl (by kernel_rfl) (show 73 < 119 by decide) (hF 10 (by kernel_rfl)) rfl) _ _ _ _ _ rfl _ _ (eval_at 78 15 _ (by kernel_rfl) (show 78 < 119 by decide) (hF 15 (by kernel_rfl))) (eval_at 82 19 _ (by kernel_rfl) (show 82 < 119 by decide) (hF 19 (by kernel_rfl))) _ (run_eqB W1 _ _ _ (by simp) _ _) ⟨_, rfl, rfl, RM.refl _⟩
        | 21, ho =>
          obtain rfl := Option.some.inj ho
          exact gstep_pick rfl (wanted0 rfl) _ _ _ rfl true (eval_at 73 10 _ (by kernel_rfl) (show 73 < 119 by decide) (hF 10 (by kernel_rfl))) _ (by rw [if_pos rfl]; exact (eval_at 83 20 _ (by kernel_rfl) (show 83 < 119 by decide) (hF 20 (by kernel_rfl)))) ⟨_, rfl, rfl, RM.refl _⟩
        | 22, ho =>
          obtain rfl := Option.some.inj ho
          exact gstep_move rfl (wanted0 rfl) _ rfl _ (eval_at 84 21 _ (by kernel_rfl) (show 84 < 119 by decide) (hF 21 (by kernel_rfl))) ⟨_, rfl, rfl, RM.refl _⟩
        | 23, ho =>
          obtain rfl := Option.some.inj ho
          exact gstep_move rfl (wanted_at 85 22 true _ true rfl (by kernel_rfl) (show 85 < 119 by decide) (hF 22 (by kernel_rfl)) rfl) _ rfl _ (eval_of 9 _ (by kernel_rfl) rfl) ⟨_, rfl, rfl, RM.refl _⟩
        | 24, ho =>
          obtain rfl := Option.some.inj ho
          exact gstep_load rfl (wanted_at 85 22 true _ true rfl (by kernel_rfl) (show 85 < 119 by decide) (hF 22 (by kernel_rfl)) rfl) _ _ rfl _ (eval_of 12 _ (by kernel_rfl) rfl) _ (run_loadI W1 _ _ (HKB.out W1 hR)) ⟨_, rfl, rfl, RM.refl _⟩
        | 25, ho =>
          obtain rfl := Option.some.inj ho
          exact gstep_load rfl (wanted_at 85 22 true _ true rfl (by kernel_rfl) (show 85 < 119 by decide) (hF 22 (by kernel_rfl)) rfl) _ _ rfl _ (eval_of 11 _ (by kernel_rfl) rfl) _ (run_loadSs W1 _ _ _ _ (HPB.out W1 hR)) ⟨_, rfl, rfl, RM.refl _⟩
        | 26, ho =>
          obtain rfl := Option.some.inj ho
          exact gstep_load rfl (wanted_at 85 22 true _ true rfl (by kernel_rfl) (show 85 < 119 by decide) (hF 22 (by kernel_rfl)) rfl) _ _ rfl _ (eval_of 12 _ (by kernel_rfl) rfl) _ (run_loadI W1 _ _ (HKB.out W1 hR)) ⟨_, rfl, rfl, RM.refl _⟩
        | 27, ho =>
          obtain rfl := Option.some.inj ho
          exact gstep_index rfl (wanted_at 85 22 true _ true rfl (by kernel_rfl) (show 85 < 119 by decide) (hF 22 (by kernel_rfl)) rfl) _ _ _ rfl _ _ (eval_at 88 25 _ (by kernel_rfl) (show 88 < 119 by decide) (hF 25 (by kernel_rfl))) (eval_at 89 26 _ (by kernel_rfl) (show 89 < 119 by decide) (hF 26 (by kernel_rfl))) _ (run_ixSs W1 _ _ _ _ HKN.out) ⟨_, rfl, rfl, RM.refl _⟩
        | 28, ho =>
          obtain rfl := Option.some.inj ho
          exact gstep_load rfl (wanted_at 85 22 true _ true rfl (by kernel_rfl) (show 85 < 119 by decide) (hF 22 (by kernel_rfl)) rfl) _ _ rfl _ (eval_at 90 27 _ (by kernel_rfl) (show 90 < 119 by decide) (hF 27 (by kernel_rfl))) _ (run_loadS W1 _ _ (HGC.out W1 hR)) ⟨_, rfl, rfl, RM.refl _⟩
        | 29, ho =>
          obtain rfl := Option.some.inj ho
          exact gstep_slice2 rfl (wanted_at 85 22 true _ true rfl (by kernel_rfl) (show 85 < 119 by decide) (hF 22 (by kernel_rfl)) rfl) _ _ _ rfl _ _ (eval_at 91 28 _ (by kernel_rfl) (show 91 < 119 by decide) (hF 28 (by kernel_rfl))) rfl _ (HSL.out W1) ⟨_, rfl, rfl, RM.refl _⟩
        | 30, ho =>
          obtain rfl := Option.some.inj ho
          refine gstep_call3 rfl (wanted_at 85 22 true _ true rfl (by kernel_rfl) (show 85 < 119 by decide) (hF 22 (by kernel_rfl)) rfl) _ _ _ _ _ rfl _ _ _ (eval_at 86 23 _ (by kernel_rfl) (show 86 < 119 by decide) (hF 23 (by kernel_rfl))) (eval_at 87 24 _ (by kernel_rfl) (show 87 < 119 by decide) (hF 24 (by kernel_rfl))) (eval_at 92 29 _ (by kernel_rfl) (show 92 < 119 by decide) (hF 29 (by kernel_rfl))) (by go_simp) ?_
          refine (HMD.out W1 hR p1 HP1.out).mono ?_
          rintro e w2 ⟨rfl, hx⟩
          exact ⟨_, rfl, _, rfl, (by rw [HB1.out]; rfl), hx⟩
        | 31, ho =>
          obtain rfl := Option.some.inj ho
          exact gstep_bin rfl (wanted_at 85 22 true _ true rfl (by kernel_rfl) (show 85 < 119 by decide) (hF 22 (by kernel_rfl)) rfl) _ _ _ _ _ rfl _ _ (eval_at 93 30 _ (by kernel_rfl) (show 93 < 119 by decide) (hF 30 (by kernel_rfl))) rfl _ (run_eqE W1 _ _ _ rfl _ _) ⟨_, rfl, rfl, RM.refl _⟩
        | 32, ho =>
          obtain rfl := Option.some.inj ho
          exact gstep_pick rfl (wanted0 rfl) _ _ _ rfl true (eval_at 85 22 _ (by kernel_rfl) (show 85 < 119 by decide) (hF 22 (by kernel_rfl))) _ (by rw [if_pos rfl]; exact (eval_at 94 31 _ (by kernel_rfl) (show 94 < 119 by decide) (hF 31 (by kernel_rfl)))) ⟨_, rfl, rfl, RM.refl _⟩
        | 33, ho =>
          obtain rfl := Option.some.inj ho
          exact gstep_move rfl (wanted0 rfl) _ rfl _ (eval_at 95 32 _ (by kernel_rfl) (show 95 < 119 by decide) (hF 32 (by kernel_rfl))) ⟨_, rfl, rfl, RM.refl _⟩
        | 34, ho =>
          obtain rfl := Option.some.inj ho
          exact gstep_move rfl (wanted_at 96 33 true _ true rfl (by kernel_rfl) (show 96 < 119 by decide) (hF 33 (by kernel_rfl)) rfl) _ rfl _ (eval_of 9 _ (by kernel_rfl) rfl) ⟨_, rfl, rfl, RM.refl _⟩
        | 35, ho =>
          obtain rfl := Option.some.inj ho
          exact gstep_load rfl (wanted_at 96 33 true _ true rfl (by kernel_rfl) (show 96 < 119 by decide) (hF 33 (by kernel_rfl)) rfl) _ _ rfl _ (eval_of 11 _ (by kernel_rfl) rfl) _ (run_loadSs W1 _ _ _ _ (HPB.out W1 hR)) ⟨_, rfl, rfl, RM.refl _⟩
        | 36, ho =>
          obtain rfl := Option.some.inj ho
          exact gstep_lenLSs rfl (wanted_at 96 33 true _ true rfl (by kernel_rfl) (show 96 < 119 by decide) (hF 33 (by kernel_rfl)) rfl) _ rfl _ _ _ (eval_at 98 35 _ (by kernel_rfl) (show 98 < 119 by decide) (hF 35 (by kernel_rfl))) ⟨_, rfl, rfl, RM.refl _⟩
        | 37, ho =>
          obtain rfl := Option.some.inj ho
          exact gstep_load rfl (wanted_at 96 33 true _ true rfl (by kernel_rfl) (show 96 < 119 by decide) (hF 33 (by kernel_rfl)) rfl) _ _ rfl _ (eval_of 11 _ (by kernel_rfl) rfl) _ (run_loadSs W1 _ _ _ _ (HPB.out W1 hR)) ⟨_, rfl, rfl, RM.refl _⟩
        | 38, ho =>
          obtain rfl := Option.some.inj ho
          exact gstep_load rfl (wanted_at 96 33 true _ true rfl (by kernel_rfl) (show 96 < 119 by decide) (hF 33 (by kernel_rfl)) rfl) _ _ rfl _ (eval_of 12 _ (by kernel_rfl) rfl) _ (run_loadI W1 _ _ (HKB.out W1 hR)) ⟨_, rfl, rfl, RM.refl _⟩
        | 39, ho =>
          obtain rfl := Option.some.inj ho
          exact gstep_index rfl (wanted_at 96 33 true _ true rfl (by kernel_rfl) (show 96 < 119 by decide) (hF 33 (by kernel_rfl)) rfl) _ _ _ rfl _ _ (eval_at 100 37 _ (by kernel_rfl) (show 100 < 119 by decide) (hF 37 (by kernel_rfl))) (eval_at 101 38 _ (by kernel_rfl) (show 101 < 119 by decide) (hF 38 (by kernel_rfl))) _ (run_ixSs W1 _ _ _ _ HKN.out) ⟨_, rfl, rfl, RM.refl _⟩
        | 40, ho =>
          obtain rfl := Option.some.inj ho
          exact gstep_load rfl (wanted_at 96 33 true _ true rfl (by kernel_rfl) (show 96 < 119 by decide) (hF 33 (by kernel_rfl)) rfl) _ _ rfl _ (eval_at 102 39 _ (by kernel_rfl) (show 102 < 119 by decide) (hF 39 (by kernel_rfl))) _ (run_loadS W1 _ _ (HGC.out W1 hR)) ⟨_, rfl, rfl, RM.refl _⟩
        | 41, ho =>
          obtain rfl := Option.some.inj ho
          refine gstep_call3 rfl (wanted_at 96 33 true _ true rfl (by kernel_rfl) (show 96 < 119 by decide) (hF 33 (by kernel_rfl)) rfl) _ _ _ _ _ rfl _ _ _ (eval_at 97 34 _ (by kernel_rfl) (show 97 < 119 by decide) (hF 34 (by kernel_rfl))) (eval_at 99 36 _ (by kernel_rfl) (show 99 < 119 by decide) (hF 36 (by kernel_rfl))) (eval_at 103 40 _ (by kernel_rfl) (show 103 < 119 by decide) (hF 40 (by kernel_rfl))) (by go_simp) ?_
          refine (HMN.out W1 hR (N : Int) p HNI.out).mono ?_
          rintro e w2 ⟨rfl, rfl⟩
          exact ⟨_, rfl, _, rfl, rfl, RM.refl _⟩
        | 42, ho =>
          obtain rfl := Option.some.inj ho
          exact gstep_bin rfl (wanted_at 96 33 true _ true rfl (by kernel_rfl) (show 96 < 119 by decide) (hF 33 (by kernel_rfl)) rfl) _ _ _ _ _ rfl _ _ (eval_at 104 41 _ (by kernel_rfl) (show 104 < 119 by decide) (hF 41 (by kernel_rfl))) rfl _ (run_eqE W1 _ _ _ rfl _ _) ⟨_, rfl, rfl, RM.refl _⟩
        | 43, ho =>
          obtain rfl := Option.some.inj ho
          exact gstep_pick rfl (wanted0 rfl) _ _ _ rfl true (eval_at 96 33 _ (by kernel_rfl) (show 96 < 119 by decide) (hF 33 (by kernel_rfl))) _ (by rw [if_pos rfl]; exact (eval_at 105 42 _ (by kernel_rfl) (show 105 < 119 by decide) (hF 42 (by kernel_rfl)))) ⟨_, rfl, rfl, RM.refl _⟩
        | 44, ho =>
          obtain rfl := Option.some.inj ho
          exact gstep_move rfl (wanted0 rfl) _ rfl _ (eval_at 106 43 _ (by kernel_rfl) (show 106 < 119 by decide) (hF 43 (by kernel_rfl))) ⟨_, rfl, rfl, RM.refl _⟩
        | 45, ho =>
          obtain rfl := Option.some.inj ho
          exact gstep_move rfl (wanted_at 107 44 true _ true rfl (by kernel_rfl) (show 107 < 119 by decide) (hF 44 (by kernel_rfl)) rfl) _ rfl _ (eval_of 9 _ (by kernel_rfl) rfl) ⟨_, rfl, rfl, RM.refl _⟩
        | 46, ho =>
          obtain rfl := Option.some.inj ho
          exact gstep_move rfl (wanted_at 107 44 true _ true rfl (by kernel_rfl) (show 107 < 119 by decide) (hF 44 (by kernel_rfl)) rfl) _ rfl _ (eval_of 2 _ (by kernel_rfl) rfl) ⟨_, rfl, rfl, RM.refl _⟩
        | 47, ho =>
          obtain rfl := Option.some.inj ho
          exact gstep_bin rfl (wanted_at 107 44 true _ true rfl (by kernel_rfl) (show 107 < 119 by decide) (hF 44 (by kernel_rfl)) rfl) _ _ _ _ _ rfl _ _ (eval_at 109 46 _ (by kernel_rfl) (show 109 < 119 by decide) (hF 46 (by kernel_rfl))) rfl _ (run_andI W1 _ _ _ HO7.out _ _) ⟨_, rfl, rfl, RM.refl _⟩
        | 48, ho =>
          obtain rfl := Option.some.inj ho
          exact gstep_bin rfl (wanted_at 107 44 true _ true rfl (by kernel_rfl) (show 107 < 119 by decide) (hF 44 (by kernel_rfl)) rfl) _ _ _ _ _ rfl _ _ rfl (eval_at 110 47 _ (by kernel_rfl) (show 110 < 119 by decide) (hF 47 (by kernel_rfl))) _ (run_subI W1 _ _ _ HOS.out _ _) ⟨_, rfl, rfl, RM.refl _⟩
        | 49, ho =>
          obtain rfl := Option.some.inj ho
          exact gstep_load rfl (wanted_at 107 44 true _ true rfl (by kernel_rfl) (show 107 < 119 by decide) (hF 44 (by kernel_rfl)) rfl) _ _ rfl _ (eval_of 11 _ (by kernel_rfl) rfl) _ (run_loadSs W1 _ _ _ _ (HPB.out W1 hR)) ⟨_, rfl, rfl, RM.refl _⟩
        | 50, ho =>
          obtain rfl := Option.some.inj ho
          exact gstep_load rfl (wanted_at 107 44 true _ true rfl (by kernel_rfl) (show 107 < 119 by decide) (hF 44 (by kernel_rfl)) rfl) _ _ rfl _ (eval_of 12 _ (by kernel_rfl) rfl) _ (run_loadI W1 _ _ (HKB.out W1 hR)) ⟨_, rfl, rfl, RM.refl _⟩
        | 51, ho =>
          obtain rfl := Option.some.inj ho
          exact gstep_index rfl (wanted_at 107 44 true _ true rfl (by kernel_rfl) (show 107 < 119 by decide) (hF 44 (by kernel_rfl)) rfl) _ _ _ rfl _ _ (eval_at 112 49 _ (by kernel_rfl) (show 112 < 119 by decide) (hF 49 (by kernel_rfl))) (eval_at 113 50 _ (by kernel_rfl) (show 113 < 119 by decide) (hF 50 (by kernel_rfl))) _ (run_ixSs W1 _ _ _ _ HKN.out) ⟨_, rfl, rfl, RM.refl _⟩
        | 52, ho =>
          obtain rfl := Option.some.inj ho
          exact gstep_load rfl (wanted_at 107 44 true _ true rfl (by kernel_rfl) (show 107 < 119 by decide) (hF 44 (by kernel_rfl)) rfl) _ _ rfl _ (eval_at 114 51 _ (by kernel_rfl) (show 114 < 119 by decide) (hF 51 (by kernel_rfl))) _ (run_loadS W1 _ _ (HGC.out W1 hR)) ⟨_, rfl, rfl, RM.refl _⟩
        | 53, ho =>
          obtain rfl := Option.some.inj ho
          refine gstep_call3 rfl (wanted_at 107 44 true _ true rfl (by kernel_rfl) (show 107 < 119 by decide) (hF 44 (by kernel_rfl)) rfl) _ _ _ _ _ rfl _ _ _ (eval_at 108 45 _ (by kernel_rfl) (show 108 < 119 by decide) (hF 45 (by kernel_rfl))) (eval_at 111 48 _ (by kernel_rfl) (show 111 < 119 by decide) (hF 48 (by kernel_rfl))) (eval_at 115 52 _ (by kernel_rfl) (show 115 < 119 by decide) (hF 52 (by kernel_rfl))) (by go_simp) ?_
          refine (HMN.out W1 hR (-1 - o7) p HNJ.out).mono ?_
          rintro e w2 ⟨rfl, rfl⟩
          exact ⟨_, rfl, _, rfl, rfl, RM.refl _⟩
        | 54, ho =>
          obtain rfl := Option.some.inj ho
          exact gstep_bin rfl (wanted_at 107 44 true _ true rfl (by kernel_rfl) (show 107 < 119 by decide) (hF 44 (by kernel_rfl)) rfl) _ _ _ _ _ rfl _ _ (eval_at 116 53 _ (by kernel_rfl) (show 116 < 119 by decide) (hF 53 (by kernel_rfl))) rfl _ (run_eqE W1 _ _ _ rfl _ _) ⟨_, rfl, rfl, RM.refl _⟩
        | 55, ho =>
          obtain rfl := Option.some.inj ho
          exact gstep_pick rfl (wanted0 rfl) _ _ _ rfl true (eval_at 107 44 _ (by kernel_rfl) (show 107 < 119 by decide) (hF 44 (by kernel_rfl))) _ (by rw [if_pos rfl]; exact (eval_at 117 54 _ (by kernel_rfl) (show 117 < 119 by decide) (hF 54 (by kernel_rfl)))) ⟨_, rfl, rfl, RM.refl _⟩
        | 56, ho =>
          obtain rfl := Option.some.inj ho
          exact gstep_assign rfl (wanted0 rfl) _ rfl _ (eval_at 118 55 _ (by kernel_rfl) (show 118 < 119 by decide) (hF 55 (by kernel_rfl))) ⟨_, rfl, rfl, RM.refl _⟩
        | n + 57, ho => simp at ho
      · intro x w5 hR hF
        have h55 := hF 56 (by decide)
        simp only [putAll, Act.put, List.setIfInBounds_toArray, List.set_cons_succ, List.set_cons_zero]
        generalize x 56 = v55 at h55 ⊢
        have h55' : v55 = .bool true := h55
        subst h55'
        have B5 := HBF.out.trans hR.below
        clear hF h55
        go_wp2_with fail
        go_ret
        exact ⟨rfl, B5⟩

theorem own : ownKnob Tryd.prog.godebug = none := by kernel_rfl
theorem laidOut : laidOutB Tryd.prog = true := by kernel_rfl
theorem gHi : Tryd.prog.globalNamed "orchard/sum.highTable" = some 0 := by kernel_rfl
theorem gLo : Tryd.prog.globalNamed "orchard/sum.lowTable" = some 1 := by kernel_rfl
theorem gHiType : (Tryd.prog.globals[0]?).map (·.type) = some 187 := by kernel_rfl
theorem gLoType : (Tryd.prog.globals[1]?).map (·.type) = some 187 := by kernel_rfl
theorem cellsTab : Tryd.prog.cellsOf 187 = 16 := by kernel_rfl
theorem cellsSum : Tryd.prog.cellsOf 70 = 1 := by kernel_rfl

theorem table_lo {W : World} (h : laidMetH Tryd.prog Rows.chunkOthersRow.laid W) : Lib.TabIs Tryd.prog W "orchard/sum.lowTable" .u32 LO :=
  Lib.tabIs_of_head (rest := [("orchard/sum.highTable", Rows.laid_orchard_sum_highTable)]) gLo gLoType Tryd.underlying187 Tryd.underlying70 cellsSum cellsTab h
theorem table_hi {W : World} (h : laidMetH Tryd.prog Rows.chunkOthersRow.laid W) : Lib.TabIs Tryd.prog W "orchard/sum.highTable" .u32 HI :=
  Lib.tabIs_of_head (rest := []) gHi gHiType Tryd.underlying187 Tryd.underlying70 cellsSum cellsTab (laidMet.tail (show laidMet Tryd.prog [("orchard/sum.lowTable", Rows.laid_orchard_sum_lowTable), ("orchard/sum.highTable", Rows.laid_orchard_sum_highTable)] W from h))
theorem tabs_of {W : World} (h : laidMetH Tryd.prog Rows.chunkOthersRow.laid W) : Tabs W := by
  have c0 := fun (j : Nat) (hj : j < 16) => (table_hi h).cell gHi j hj
  have c1 := fun (j : Nat) (hj : j < 16) => (table_lo h).cell gLo j hj
  refine ⟨⟨World.block_lt_of_cell? W _ (c0 0 (by decide)), World.block_lt_of_cell? W _ (c1 0 (by decide))⟩, fun j hj => ?_, fun j hj => ?_⟩
  · rw [c0 j hj, hi_cast j]
  · rw [c1 j hj, lo_cast j]

theorem contract (H : Type) (enc : TypeId × Value → H) (W : World) (base : Nat) (args : Array Value) (ds gs : List (DataW H)) (before : List MemPlace)
    (hval : ∀ (j : Nat) t v, Tryd.f11.params[j]? = some t → args[j]? = some v → Value.okWide Tryd.prog W .any base t v)
    (hW : DataW.Whole enc Tryd.prog Tryd.f11.params.toList Rows.chunkOthersSpec.vars false W args.toList ds gs before) (hL : laidMetH Tryd.prog Rows.chunkOthersRow.laid W) :
    Calls Tryd.prog 11 args W fun e W' => ∃ v, e = .returned v ∧ Rows.chunkOthersSpec.post enc Tryd.prog Tryd.f11 false true false false W args v W' := by
  have hT := tabs_of hL
  have hW' := hW
  obtain ⟨p, q, hA0, hV, rfl, hfz, hnd⟩ := hW
  have hA : DataW.TrodAll enc Tryd.prog W 0 (fun _ => true) true Tryd.f11.params.toList args.toList ds p := hA0
  rw [Tryd.params11] at hA hval
  obtain ⟨v0, vs0, d0, ds0, p0, q0, hargs, rfl, rfl, h0, r0⟩ := trodAll_cons hA
  obtain ⟨v1, vs1, d1, ds1, p1, q1, rfl, rfl, rfl, h1, r1⟩ := trodAll_cons r0
  obtain ⟨v2, vs2, d2, ds2, p2, q2, rfl, rfl, rfl, h2, r2⟩ := trodAll_cons r1
  obtain ⟨rfl, rfl, rfl⟩ := trodAll_nil r2
  obtain rfl : args = #[v0, v1, v2] := by cases args; simp_all
  obtain ⟨rfl, rfl⟩ := trodVars_none hV
  obtain ⟨a0, rfl, rfl, rfl, w0⟩ := open_int Tryd.underlying3 (hval 0 3 v0 rfl rfl) h0
  obtain ⟨a1, rfl, rfl, rfl, w1⟩ := open_int Tryd.underlying3 (hval 1 3 v1 rfl rfl) h1
  obtain ⟨a2, rfl, rfl, rfl, w2⟩ := open_int Tryd.underlying3 (hval 2 3 v2 rfl rfl) h2
  clear hA0
  refine (walk a0 a1 a2 W w0 w1 w2 hT).mono fun e W' ⟨he, bel⟩ => ?_
  subst he
  exact ⟨_, rfl, _, _, _, [], _, [], hW', trodAll_mk1 (shut_bool Tryd.underlying4 _), (trodAll_cons_mk (shut_int Tryd.underlying3 w0) (trodAll_cons_mk (shut_int Tryd.underlying3 w1) (trodAll_cons_mk (shut_int Tryd.underlying3 w2) trodAll_mk0))), rfl, bel.frame _, fun h => by cases h⟩

def setTab (l : List Int) : Obj → Obj
  | .cells _ t frozen => .cells (l.map (Value.int .u32)).toArray t frozen
  | o => o
noncomputable def laidWorld (os : Os) : World :=
  { World.holding Tryd.prog os ⟨#[], #[], []⟩ with heap := ((World.holding Tryd.prog os ⟨#[], #[], []⟩).heap.modify 1 (setTab LO)).modify 0 (setTab HI) }
theorem laid_met (os : Os) : laidMet Tryd.prog Rows.chunkOthersRow.laid ((laidWorld os).forCall (fun _ _ => 0) ⟨#[], #[.int .i64 0, .int .i64 0, .int .i64 0], []⟩).memory :=
  laidMet_of_run' 8 (by kernel_rfl) (by kernel_rfl)
theorem reads (os : Os) {H : Type} (enc : TypeId × Value → H) : ∃ places, DataW.whole enc Tryd.prog ((laidWorld os).forCall (fun _ _ => 0) ⟨#[], #[.int .i64 0, .int .i64 0, .int .i64 0], []⟩).memory Tryd.f11.params.toList Rows.chunkOthersSpec.vars false #[Value.int .i64 0, Value.int .i64 0, Value.int .i64 0].toList 8 = some ([.lit (.int .i64 0), .lit (.int .i64 0), .lit (.int .i64 0)], [], places) :=
  ⟨[], by kernel_rfl⟩

set_option maxRecDepth 100000 in
theorem lifted (os : Os) (started : os.Started) (H : Type) (enc : TypeId × Value → H) (F : Stop.Interp) :
    ReturnsInHanded {} Tryd.checked os 11 .any ((OpenSpec.ofChange Rows.chunkOthersSpec).preRow enc Tryd.prog Tryd.f11 Rows.chunkOthersRow.domain false Rows.chunkOthersRow.laid) (((OpenSpec.ofChange Rows.chunkOthersSpec).at F).post enc Tryd.prog Tryd.f11 false true false false) := by
  obtain ⟨places, hx⟩ := reads os enc
  refine returnsInHanded_of_row (C := Tryd.checked) (s := OpenSpec.ofChange Rows.chunkOthersSpec) own started (by kernel_rfl) Tryd.func11
    (witness_row_at (enc := enc) (C := Tryd.checked) false (laidWorld os) #[.int .i64 0, .int .i64 0, .int .i64 0] rfl (by kernel_rfl) (by kernel_rfl) (by kernel_rfl)
      (OpenSpec.preRow_of_cond 8 hx (by kernel_rfl) (fun k hk => by cases hk) (by kernel_rfl) (laid_met os))) ?_
  intro W base args ds gs before hval hW _ _ _ hL _ _
  exact contract H enc W base args ds gs before hval hW hL

theorem said : Rows.ChunkOthersSaid :=
  OpenClaim.holds_of_cond 11 Tryd.f11 rfl rfl rfl rfl rfl rfl rfl ⟨rfl, rfl, rfl, rfl, rfl⟩ rfl rfl rfl rfl rfl (by kernel_rfl) Tryd.func11 (by kernel_rfl)
    (of_decide_eq_true (by kernel_rfl)) (by unfold Func.isWrapper; first | (rw [if_pos (by decide +kernel)]; kernel_rfl) | (rw [if_neg (by decide +kernel)]; exact ⟨rfl, rfl⟩))
    (fun os started H enc _ F => by rw [OpenClaim.pre_eq_preRow]; exact lifted os started H enc F)

theorem plain (f : FuncId) (fn : Func) (hf : Tryd.pinned.checked.prog.funcNamed "orchard/orchardlaw07.ChunkOthers" = some f) (hfn : Tryd.pinned.checked.prog.funcs[f]? = some fn) :
    false = Tryd.pinned.checked.prog.looks [] ∧ ∀ (j : Nat) t, fn.params[j]? = some t → Tryd.pinned.checked.prog.wantsStandIn t = false := by
  obtain rfl : f = 11 := Option.some.inj ((show Tryd.prog.funcNamed "orchard/orchardlaw07.ChunkOthers" = some 11 by kernel_rfl).symm.trans hf) |>.symm
  obtain rfl : fn = Tryd.f11 := (Option.some.inj (Tryd.func11.symm.trans hfn)).symm
  refine ⟨by kernel_rfl, fun j t ht => ?_⟩
  rw [Tryd.params11] at ht
  have hm := Array.mem_of_getElem? ht
  simp at hm
  subst hm
  exact (show Tryd.prog.wantsStandIn 3 = false by kernel_rfl)

theorem card : Rows.ChunkOthersCardSaid :=
  Claim7.holds_tied_plain_at .later [] _ _ _ _ said (fun _ h => by cases h) (by kernel_rfl) (fun _ h => by cases h) chunkOthers_row_tie rfl ⟨rfl, rfl⟩ (by kernel_rfl) rfl plain (by kernel_rfl)
end Go.Proofs.YtiknfifiglooeaaDoor.chunkOthers
