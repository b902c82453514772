/- ChunkBlocks: the contents of the device are as the chapter says, and what is not valid is rejected; no condition on the input (the two tables start as the program text lays them). -/
import Derived.Test.YtiknfifiglooeaaDoorChunkBl
import Derived.Test.YtiknfifiglooeaaDoorCards
import Derived.Test.YtiknfifiglooeaaDoorTie
import Derived.ProofKit
import Derived.OpenShut
import Derived.ShutString
import Derived.ChangeOld
import Derived.Deep.DeepHandedRow
import Derived.Lib.LaidTab
import Derived.Stop.LaidErr
namespace Go.Proofs.YtiknfifiglooeaaDoor.chunkBlocks
open Go.ChangeShapes Go.WideShapes Go.ChangeAt Go.RowKit
open Go.ChangeMaps (open_string shut_string)
set_option linter.unusedVariables false
set_option maxRecDepth 100000
set_option maxHeartbeats 8000000 in
theorem walk (a0 a1 a2 a3 : Int) (w : World) (w0 : (Lit.int .i64 a0).wf = true) (w1 : (Lit.int .i64 a1).wf = true) (w2 : (Lit.int .i64 a2).wf = true) (w3 : (Lit.int .i64 a3).wf = true) (hT : Tabs w) :
    Calls Tryd.prog 8 #[.int .i64 a0, .int .i64 a1, .int .i64 a2, .int .i64 a3] w fun e w' => e = .returned (.bool true) ∧ Below w.heap.size w w' := by
  have HT := Lib.hid (fun (x : World) (hb : Below w.heap.size w x) => hT.below hb)
  clear hT
  obtain ⟨n, hn⟩ : ∃ n : Nat, (n : Int) = a0 % 65536 := ⟨(a0 % 65536).toNat, by omega⟩
  obtain ⟨i, hi⟩ : ∃ i : Int, i = a2 % 65536 := ⟨_, rfl⟩
  obtain ⟨t, ht⟩ : ∃ t : Int, t = a3 % 256 := ⟨_, rfl⟩
  have hand0 : bits .and .i64 a0 65535 = (n : Int) := by rw [i64_and65535, hn]
  have hand2 : bits .and .i64 a2 65535 = i := by rw [i64_and65535, hi]
  have hand3 : bits .and .i64 a3 255 = t := by rw [i64_and255, ht]
  have HN : Hid (n < 65536) := by show n < 65536; omega
  have HI : Hid (0 ≤ i ∧ i < 65536) := by show 0 ≤ i ∧ i < 65536; omega
  have HTT : Hid (0 ≤ t ∧ t < 256) := by show 0 ≤ t ∧ t < 256; omega
  clear hn hi ht w0 w1 w2 w3
  go_enter Tryd.func8, Tryd.ntmps8
  go_wp2_with fail
  refine (head7_any w HT.out).mono ?_
  rintro e w1 ⟨rfl, hb1⟩
  have HB1 := Lib.hid hb1
  clear hb1
  go_wp2_with fail
  refine (text7_any n a1 (by have := HN.out; omega) w1).mono ?_
  rintro e w2 ⟨s, rfl, hs, hb2⟩
  have HS := Lib.hid hs
  have HB2 := Lib.hid (HB1.out.trans (hb2.mono HB1.out.size))
  clear hs hb2 HB1
  go_wp2_with fail
  refine (new_any 140 w2).mono ?_
  rintro e w3 ⟨B, rfl, hd, hb3⟩
  have X3 : DevW w.heap.size (fun _ => False) w3 B (Dv.new ((140 : Nat) : Int)) := devw_new hd HB2.out.size (fun j hj => hj.elim) hb3.size
  have HB3 := Lib.hid (HB2.out.trans (hb3.mono HB2.out.size))
  obtain ⟨c1, n1, k1⟩ := new_calm 140 (by decide)
  have HC1 := Lib.hid c1
  have HN1 := Lib.hid n1
  have HK1 := Lib.hid k1
  have HO := Lib.hid (st_open (M := 140) (base := 4) X3 HC1.out HN1.out (by decide) (by decide) HB3.out.size (HT.out _ HB3.out))
  have hopn : opnC (cont (Dv.new ((140 : Nat) : Int))) 4 = (ls0, 0) := opnC_zero (fun ar n _ _ => by rw [cpC_rc0 (x := 0) (by rw [HK1.out])]; rfl)
  rw [hopn] at HO
  clear hopn X3 hd c1 n1 k1 hb3 HB2
  go_wp2_with fail
  refine HO.out.mono ?_
  rintro e w4 ⟨b, sv, ar, rfl, hbb, har, S4, hb4⟩
  obtain rfl : ar = 0 := by simpa using har
  have HS4 := Lib.hid S4
  have HB4 := Lib.hid (HB3.out.trans (hb4.mono HB3.out.size))
  clear S4 hb4 hbb har HO HB3
  generalize (fun k => False ∨ (w3.heap.size ≤ k ∧ k < w4.heap.size)) = E4 at HS4
  by_cases hgood : 1 ≤ i ∧ 1 ≤ t ∧ n ≤ 25600
  case neg =>
    have hbad : (ofL i t s).bad ls0.index = true := by
      unfold Ls.bad
      rw [Bool.or_eq_true]
      left
      have e : (ofL i t s).sums.length = cutN s.size := sumsOf_length s
      rw [e]
      unfold validB
      show (!decide _) = true
      rw [Bool.not_eq_true', decide_eq_false_iff_not]
      intro h
      have h5 := h.2.2.2.2.1
      have := cutN_le (n := s.size)
      have := HS.out
      have h1 : 1 ≤ i := h.1
      have h2 : 1 ≤ t := h.2.2.1
      exact hgood ⟨h1, h2, by omega⟩
    have HPT := Lib.hid (st_put_bad i t s HS4.out hbad (by have := HS.out; have := HN.out; omega) HB4.out.size (fun x hx => HT.out x (HB4.out.trans hx)))
    have h3 : (decide (i < 1) = true) ∨ (decide (i < 1) = false ∧ decide (t < 1) = true) ∨ (decide (i < 1) = false ∧ decide (t < 1) = false ∧ decide ((n : Int) > 25600) = true ∧ decide (25600 < (n : Int)) = true) := by
      by_cases h1 : i < 1
      · exact .inl (decide_eq_true h1)
      · by_cases h2 : t < 1
        · exact .inr (.inl ⟨decide_eq_false h1, decide_eq_true h2⟩)
        · have h4 : (25600 : Int) < n := by omega
          exact .inr (.inr ⟨decide_eq_false h1, decide_eq_false h2, decide_eq_true h4, decide_eq_true h4⟩)
    clear hbad hgood
    go_wp2_with fail
    refine HPT.out.mono ?_
    rintro e w5 ⟨rfl, S5, hb5, _⟩
    have HB5 := Lib.hid (HB4.out.trans hb5)
    have HHO := Lib.hid (holds_none 0 ⟨#[]⟩ S5)
    clear S5 hb5 HPT
    rcases h3 with h1 | ⟨h1, h2⟩ | ⟨h1, h2, h3, h4⟩
    all_goals
      go_wp2_with fail
      refine HHO.out.mono ?_
      rintro e w6 ⟨rfl, hb6⟩
      have HB6 := Lib.hid (HB5.out.trans (hb6.mono HB5.out.size))
      go_wp2_with fail
      go_ret
      exact ⟨rfl, HB6.out⟩
  obtain ⟨hi1, ht1, hn25⟩ := hgood
  have d1 : decide (i < 1) = false := decide_eq_false (by omega)
  have d2 : decide (t < 1) = false := decide_eq_false (by omega)
  have d3 : decide ((n : Int) > 25600) = false := decide_eq_false (by omega)
  have d4 : decide (25600 < (n : Int)) = false := decide_eq_false (by omega)
  have hg : (ofL i t s).Good := ofL_good2 (by have := HI.out; omega) (by have := HTT.out; omega) (by have := HS.out; omega)
  have HG := Lib.hid hg
  have HN25 : Hid (n ≤ 25600) := hn25
  have HI1 : Hid (1 ≤ i) := hi1
  have HPT := Lib.hid (st_put i t s HS4.out hg (by show (0 : Int) < i; omega) (by have := HS.out; omega) HB4.out.size (fun x hx => HT.out x (HB4.out.trans hx)))
  clear hi1 ht1 hn25 hg
  go_wp2_with fail
  refine HPT.out.mono ?_
  rintro e w5 ⟨rfl, E5, sv5, D5, hE5, S5, k5, hb5, hk5⟩
  rw [show nxtA ls0 0 = 0 from rfl] at S5 k5
  have HS5 := Lib.hid S5
  have HB5 := Lib.hid (HB4.out.trans hb5)
  have HK5 := Lib.hid k5
  clear S5 k5 hb5 hk5 hE5 HPT HB4 HS4 HK1 HC1 HN1
  go_wp2_with fail
  refine (cut_any s (by have := HN.out; have := HS.out; omega) w5).mono ?_
  rintro e w6 ⟨v, rfl, hrow, hb6⟩
  have HR6 := Lib.hid hrow
  have HB6 := Lib.hid (HB5.out.trans (hb6.mono HB5.out.size))
  have HS6 := Lib.hid (HS5.out.below hb6)
  obtain ⟨va, vc, rfl⟩ := slice_of hrow
  have hlen := cutS_length s
  obtain ⟨N, hNN⟩ : ∃ N, N = (cutS s).length := ⟨_, rfl⟩
  have HNN := Lib.hid hNN
  have HN6 : Hid (N ≤ 64 ∧ N = cutN s.size) := by show N ≤ 64 ∧ N = cutN s.size; have := cutN_le (n := s.size); have := HS.out; have := HN25.out; omega
  rw [← HNN.out]
  clear hrow hb6 HS5 HB5 hlen hNN d1 d2 d3 d4 hand0 hand2 hand3
  -- b = Num(Num(nil, n), len(parts))
  have bA := (Below.refl w6.heap.size w6).alloc (Nat.le_refl _) (.cells #[.int .i64 (n : Int)] 3)
  have hn1 := (OneI.new w6 (n : Int)).num (Src.nil _) (by simp) (by have := HN.out; omega)
  have HNU := Lib.hid hn1
  have HBA := Lib.hid (HB6.out.trans (bA.mono HB6.out.size))
  have HRA := Lib.hid (World.ownsRow_below HR6.out bA)
  have HSA := Lib.hid (HS6.out.below bA)
  clear hn1 bA HB6 HR6 HS6
  go_wp2_with fail
  refine HNU.out.mono ?_
  rintro e w7 ⟨u7, rfl, hu7, hb7⟩
  have HU7 := Lib.hid hu7
  have HB7 := Lib.hid (HBA.out.trans (hb7.mono HBA.out.size))
  have HR7 := Lib.hid (World.ownsRow_below HRA.out hb7)
  have HS7 := Lib.hid (HSA.out.below hb7)
  have bB := (Below.refl w7.heap.size w7).alloc (Nat.le_refl _) (.cells #[.int .i64 (N : Int)] 3)
  have hn2 := (OneI.new w7 (N : Int)).num (hu7.below bB) (by rw [List.length_append, numE_length]; simp) (by have := HN6.out; omega)
  have HNV := Lib.hid hn2
  have HBB := Lib.hid (HB7.out.trans (bB.mono HB7.out.size))
  have HRB := Lib.hid (World.ownsRow_below HR7.out bB)
  have HSB := Lib.hid (HS7.out.below bB)
  clear hn2 bB hu7 hb7 HNU HBA HRA HSA HB7 HR7 HS7 HU7
  go_wp2_with fail
  refine HNV.out.mono ?_
  rintro e w8 ⟨u8, rfl, hu8, hb8⟩
  have HU8 := Lib.hid hu8
  have HB8 := Lib.hid (HBB.out.trans (hb8.mono HBB.out.size))
  have HR8 := Lib.hid (World.ownsRow_below HRB.out hb8)
  have HS8 := Lib.hid (HSB.out.below hb8)
  clear hu8 hb8 HNV HBB HRB HSB
  go_wp2_with fail
  go_loopw [15, 88] (fun bv iv wx => ∃ k : Nat, k ≤ N ∧ iv = .int .i64 (k : Int) ∧ Hid (Src wx bv (([] ++ numE (n : Int)) ++ numE (N : Int) ++ numsE ((sumsOf s).take k))) ∧ Hid (Below w8.heap.size w8 wx)) (fun _ iv _ => N - (intOf iv).toNat)
  case atStart => exact ⟨0, Nat.zero_le _, rfl, Lib.hid (by have := HU8.out; simpa [numsE] using this), Lib.hid (Below.refl _ _)⟩
  case round =>
    obtain ⟨k, hk, rfl, HUK, HBX⟩ := hrel
    by_cases hlt : k < N
    · have hlt' : (k : Int) < (N : Int) := by omega
      have hk0 : (0 : Int) ≤ (k : Int) := by omega
      have hkc : k < cutN s.size := by have := HN6.out; omega
      obtain ⟨c, hc⟩ : ∃ c, c = cutAt s k := ⟨_, rfl⟩
      obtain ⟨g, gc, hgv, _, hgc⟩ := strs_at (World.ownsRow_below HR8.out HBX.out) k (by rw [cutS_length]; exact hkc)
      injection hgv with e1 e2 e3
      subst e1 e3
      rw [cutS_at s hkc, ← hc] at hgc
      have hcs := cut_size s hkc
      rw [← hc] at hcs
      obtain ⟨z, hz⟩ : ∃ z : Int, z = ((addN 0 c.data.toList : Nat) : Int) := ⟨_, rfl⟩
      have hzs : (sumsOf s).getD k 0 = z := by
        have := match_cut i t s hkc
        unfold matchB at this
        have h2 := (of_decide_eq_true this).2
        rw [← hc] at h2
        rw [hz, h2]
        rfl
      have hzr : 0 ≤ z ∧ z ≤ 4294967295 := by
        rw [← hzs]
        exact sumsOf_in s _ (by rw [List.getD_eq_getElem?_getD, List.getElem?_eq_getElem (by rw [sumsOf_length]; exact hkc)]; exact List.getElem_mem _)
      have hzw : IntKind.i64.wrap z = z := IntWalk.i64_in _ (by omega)
      have HZR := Lib.hid hzr
      have bA := (Below.refl wr.heap.size wr).alloc (Nat.le_refl _) (.cells #[.string c] 9)
      have HBR := Lib.hid (HB8.out.trans (HBX.out.mono HB8.out.size))
      have hbA := HBR.out.trans (bA.mono HBR.out.size)
      have HSO := Lib.hid (sumof_at (HT.out _ hbA) (heap_alloc_new wr (.cells #[.string c] 9)) (by unfold maxLen; omega))
      rw [← hz] at HSO
      have HUA := Lib.hid (HUK.out.below bA)
      have HBA := Lib.hid (HBX.out.trans (bA.mono HBX.out.size))
      have HLT := Lib.hid hlt
      have HZS := Lib.hid hzs
      have HW : Hid (wrap64 ((k : Int) + 1) = (k : Int) + 1) := IntWalk.wrap64_in _ (by have := HN6.out; omega)
      have h6 : IntKind.i64.wrap (6 + (k : Int)) = 6 + (k : Int) := IntWalk.i64_in _ (by have := HN6.out; omega)
      have hsr : D5.sread (6 + (k : Int)) = (chunkR i (k : Int) c, 1, 0) := by
        rw [show 6 + (k : Int) = ((6 + k : Nat) : Int) by omega, sread_cont HS8.out.calm.toLive (by rw [HS8.out.len]; have := HN6.out; omega)]
        have : cont D5 (6 + k) = (chunkR i (k : Int) c, 1) := by rw [HK5.out, hc]; exact putC_ck (a := 4) hkc
        rw [this]
      have HSR := Lib.hid hsr
      have HCC := Lib.hid hc
      have HULEN : Hid ((([] ++ numE (n : Int)) ++ numE (N : Int) ++ numsE ((sumsOf s).take k)).length ≤ 100000) := by
        show _ ≤ _
        rw [List.length_append, List.length_append, List.length_append, numE_length, numE_length, numsE_length, List.length_take]
        have := HN6.out
        simp
        omega
      clear bA hbA hz hzs hzr hsr hc hcs hlt hk HUK HBX
      go_wp2_with fail
      refine HSO.out.mono ?_
      rintro e w10 ⟨rfl, hb10⟩
      have HB10 := Lib.hid (HBA.out.trans (hb10.mono HBA.out.size))
      have bB := (Below.refl w10.heap.size w10).alloc (Nat.le_refl _) (.cells #[.int .i64 z] 3)
      have HNW := Lib.hid ((OneI.new w10 z).num ((HUA.out.below hb10).below bB) HULEN.out (by have := HZR.out; omega))
      have HBB := Lib.hid (HB10.out.trans (bB.mono HB10.out.size))
      clear hb10 bB HSO HUA HBA HB10
      go_wp2_with fail
      refine HNW.out.mono ?_
      rintro e w11 ⟨u11, rfl, hu11, hb11⟩
      have HU11 := Lib.hid hu11
      have HB11 := Lib.hid (HBB.out.trans (hb11.mono HBB.out.size))
      have hrd := devw_sread (6 + (k : Int)) (HT.out _ (HB8.out.trans (HB11.out.mono HB8.out.size))) (by rw [HS8.out.w0]; decide) (HS8.out.below HB11.out).dev
      rw [HSR.out] at hrd
      unfold sreadV recV chunkR at hrd
      simp only at hrd
      have HRD := Lib.hid hrd
      clear hu11 hb11 hrd HNW HBB
      go_wp2_with fail
      refine HRD.out.mono ?_
      rintro e w12 ⟨rfl, hb12⟩
      have HB12 := Lib.hid (HB11.out.trans (hb12.mono HB11.out.size))
      have HU12 := Lib.hid (HU11.out.below hb12)
      have R13 := RecB.new w12 (chunkR i (k : Int) c)
      have bC := (Below.refl w12.heap.size w12).alloc (Nat.le_refl _) (.cells #[.int .i64 5, .int .i64 i, .int .i64 (k : Int), .string c] 58)
      obtain ⟨⟨r0, r1, r2, r3⟩, _⟩ := R13.cells
      unfold chunkR at r0 r1 r2 r3
      simp only at r0 r1 r2 r3
      have HB13 := Lib.hid (HB12.out.trans (bC.mono HB12.out.size))
      have HU13 := Lib.hid (HU12.out.below bC)
      have heq : (c.toList == c.toList) = true := by simp
      clear R13 bC hb12 HRD HB11 HU11 HB12 HU12
      go_wp2_with fail
      try rw [HW.out]
      refine ⟨⟨k + 1, HLT.out, by simp, ?_, HB13⟩, ?_⟩
      · refine Lib.hid ?_
        rw [numsE_snoc _ _ (by rw [sumsOf_length]; have := HN6.out; have := HLT.out; omega), HZS.out, ← List.append_assoc]
        exact HU13.out
      · have := HLT.out
        simp [intOf]
        omega
    · obtain rfl : k = N := by omega
      have hL : (([] ++ numE (n : Int)) ++ numE (k : Int) ++ numsE ((sumsOf s).take k)) = numsE ((ofL i t s).bytes :: ((ofL i t s).sums.length : Int) :: (ofL i t s).sums) := by
        have e1 : (ofL i t s).sums = sumsOf s := rfl
        have e2 : (sumsOf s).length = k := by rw [sumsOf_length]; have := HN6.out; omega
        have e3 : (ofL i t s).bytes = (n : Int) := by show (s.size : Int) = _; rw [HS.out]
        rw [e1, e3, e2, List.take_of_length_le (by omega)]
        simp [numsE]
      obtain ⟨dt, hdt⟩ : ∃ dt : ByteArray, dt = ⟨(numsE ((ofL i t s).bytes :: ((ofL i t s).sums.length : Int) :: (ofL i t s).sums)).toArray⟩ := ⟨_, rfl⟩
      have hu2 := HUK.out
      rw [hL] at hu2
      have HUR := Lib.hid hu2
      have HDT := Lib.hid hdt
      have HBR := Lib.hid (HB8.out.trans (HBX.out.mono HB8.out.size))
      have HSR := Lib.hid (HS8.out.below HBX.out)
      have hge : ¬ ((k : Int) < (k : Int)) := by omega
      have HLI := Lib.hid (show listR (ofL i t s) = ⟨4, i, t, dt⟩ by rw [hdt]; rfl)
      clear hL hu2 hdt HUK HBX hlt hk
      go_wp2_with fail
      go_loopw [21] (fun jv wx => ∃ j : Nat, j ≤ 2 ∧ jv = .int .i64 (j : Int) ∧ Hid (Below wr.heap.size wr wx)) (fun jv _ => 2 - (intOf jv).toNat)
      case atStart => exact ⟨0, by omega, rfl, Lib.hid (Below.refl _ _)⟩
      case round =>
        obtain ⟨j, hj, rfl, HBX⟩ := hrel
        by_cases hlt : j < 2
        · have hlt' : (j : Int) < 2 := by omega
          have hj0 : (0 : Int) ≤ (j : Int) := by omega
          have h4 : IntKind.i64.wrap (4 + (j : Int)) = 4 + (j : Int) := IntWalk.i64_in _ (by omega)
          have hsr : D5.sread (4 + (j : Int)) = (listR (ofL i t s), 1, 0) := by
            rw [show 4 + (j : Int) = ((4 + j : Nat) : Int) by omega, sread_cont HSR.out.calm.toLive (by rw [HSR.out.len]; omega)]
            have : cont D5 (4 + j) = (listR (ofL i t s), 1) := by
              rw [HK5.out]
              rcases (show j = 0 ∨ j = 1 by omega) with rfl | rfl
              · exact putC_l0
              · exact putC_l1
            rw [this]
          have hrd := devw_sread (4 + (j : Int)) (HT.out _ (HBR.out.trans (HBX.out.mono HBR.out.size))) (by rw [HSR.out.w0]; decide) (HSR.out.below HBX.out).dev
          rw [hsr, HLI.out] at hrd
          unfold sreadV recV at hrd
          simp only at hrd
          have HRD := Lib.hid hrd
          have HLT := Lib.hid hlt
          have HW : Hid (wrap64 ((j : Int) + 1) = (j : Int) + 1) := IntWalk.wrap64_in _ (by omega)
          clear hsr hrd hlt hj
          go_wp2_with fail
          refine HRD.out.mono ?_
          rintro e w12 ⟨rfl, hb12⟩
          have HB12 := Lib.hid (HBX.out.trans (hb12.mono HBX.out.size))
          have R13 := RecB.new w12 ⟨4, i, t, dt⟩
          have bC := (Below.refl w12.heap.size w12).alloc (Nat.le_refl _) (.cells #[.int .i64 4, .int .i64 i, .int .i64 t, .string dt] 58)
          obtain ⟨⟨r0, r1, r2, r3⟩, _⟩ := R13.cells
          simp only at r0 r1 r2 r3
          have HB13 := Lib.hid (HB12.out.trans (bC.mono HB12.out.size))
          have hcv := run_str (HUR.out.below HB13.out)
          rw [← HDT.out] at hcv
          have heq : (dt.toList == dt.toList) = true := by simp
          clear R13 bC hb12 HRD HB12
          go_wp2_with fail
          try rw [HW.out]
          refine ⟨⟨j + 1, HLT.out, by simp, HB13⟩, ?_⟩
          have := HLT.out
          simp [intOf]
          omega
        · obtain rfl : j = 2 := by omega
          have HBF := Lib.hid (HBR.out.trans (HBX.out.mono HBR.out.size))
          have HSF := Lib.hid (HSR.out.below HBX.out)
          have hge2 : ¬ (((2 : Nat) : Int) < 2) := by omega
          clear hlt hj HBX HBR HSR HUR
          go_wp2_with fail
          refine (copen_neg (-1) (by decide)).mono ?_
          rintro e w20 ⟨rfl, rfl⟩
          go_wp2_with fail
          refine (copen_far 9 HSF.out.dev (by decide) (by rw [HSF.out.len]; decide) (by rw [HSF.out.len]; decide)).mono ?_
          rintro e w20 ⟨rfl, rfl⟩
          go_wp2_with fail
          refine (clist_nil _).mono ?_
          rintro e w21 ⟨rfl, hb21⟩
          have bA := (Below.refl w21.heap.size w21).alloc (Nat.le_refl _) (.cells #[.int .i64 0, .int .i64 0, .int .i64 0, .slice none 0 0] 67)
          have HS22 := Lib.hid ((HSF.out.below hb21).below bA)
          have HB22 := Lib.hid (HBF.out.trans ((hb21.trans (bA.mono hb21.size)).mono HBF.out.size))
          clear hb21 bA HSF HBF
          unfold lsV ls0
          simp only
          go_upto_region 34 with fail
          generalize w21.alloc (.cells #[.int .i64 0, .int .i64 0, .int .i64 0, .slice none 0 0] 67) = w22 at HS22 HB22 ⊢
          go_wp2_with fail
          refine (cdata_nil w22).mono ?_
          rintro e w23 ⟨rfl, rfl⟩
          go_wp2_with fail
          refine (cchunk_nil 0 w22).mono ?_
          rintro e w23 ⟨rfl, rfl⟩
          have hbad : (ofL i t s).bad (ofL i t s).index = true := by
            unfold Ls.bad
            simp
          have HP2 := Lib.hid (st_put_bad i t s HS22.out hbad (by have := HS.out; have := HN.out; omega) HB22.out.size (fun x hx => HT.out x (HB22.out.trans hx)))
          clear hbad
          go_wp2_with fail
          refine HP2.out.mono ?_
          rintro e w24 ⟨rfl, _, hb24, _⟩
          have HB24 := Lib.hid (HB22.out.trans hb24)
          clear hb24 HP2 HS22 HB22
          go_wp2_with fail
          refine (churt_nil w24).mono ?_
          rintro e w25 ⟨rfl, rfl⟩
          go_wp2_with fail
          refine (cput_nil 1 1 ⟨#[]⟩ (by decide) w24 (HT.out _ HB24.out)).mono ?_
          rintro e w26 ⟨rfl, hb26⟩
          have HB26 := Lib.hid (HB24.out.trans (hb26.mono HB24.out.size))
          go_wp2_with fail
          refine (cmend_nil 0 ⟨#[]⟩ w26).mono ?_
          rintro e w27 ⟨rfl, rfl⟩
          go_wp2_with fail
          refine (cscrub_nil w26).mono ?_
          rintro e w27 ⟨rfl, rfl⟩
          go_wp2_with fail
          go_ret
          exact ⟨rfl, HB26.out⟩

theorem own : ownKnob Tryd.prog.godebug = none := by kernel_rfl
theorem laidOut : laidOutB Tryd.prog = true := by kernel_rfl
theorem gHi : Tryd.prog.globalNamed "orchard/sum.highTable" = some 0 := by kernel_rfl
theorem gLo : Tryd.prog.globalNamed "orchard/sum.lowTable" = some 1 := by kernel_rfl
theorem gHiType : (Tryd.prog.globals[0]?).map (·.type) = some 187 := by kernel_rfl
theorem gLoType : (Tryd.prog.globals[1]?).map (·.type) = some 187 := by kernel_rfl
theorem cellsTab : Tryd.prog.cellsOf 187 = 16 := by kernel_rfl
theorem cellsSum : Tryd.prog.cellsOf 70 = 1 := by kernel_rfl

theorem table_lo {W : World} (h : laidMetH Tryd.prog Rows.chunkBlocksRow.laid W) : Lib.TabIs Tryd.prog W "orchard/sum.lowTable" .u32 LO :=
  Lib.tabIs_of_head (rest := [("orchard/sum.highTable", Rows.laid_orchard_sum_highTable)]) gLo gLoType Tryd.underlying187 Tryd.underlying70 cellsSum cellsTab h
theorem table_hi {W : World} (h : laidMetH Tryd.prog Rows.chunkBlocksRow.laid W) : Lib.TabIs Tryd.prog W "orchard/sum.highTable" .u32 HI :=
  Lib.tabIs_of_head (rest := []) gHi gHiType Tryd.underlying187 Tryd.underlying70 cellsSum cellsTab (laidMet.tail (show laidMet Tryd.prog [("orchard/sum.lowTable", Rows.laid_orchard_sum_lowTable), ("orchard/sum.highTable", Rows.laid_orchard_sum_highTable)] W from h))
theorem tabs_of {W : World} (h : laidMetH Tryd.prog Rows.chunkBlocksRow.laid W) : Tabs W := by
  have c0 := fun (j : Nat) (hj : j < 16) => (table_hi h).cell gHi j hj
  have c1 := fun (j : Nat) (hj : j < 16) => (table_lo h).cell gLo j hj
  refine ⟨⟨World.block_lt_of_cell? W _ (c0 0 (by decide)), World.block_lt_of_cell? W _ (c1 0 (by decide))⟩, fun j hj => ?_, fun j hj => ?_⟩
  · rw [c0 j hj, hi_cast j]
  · rw [c1 j hj, lo_cast j]

theorem contract (H : Type) (enc : TypeId × Value → H) (W : World) (base : Nat) (args : Array Value) (ds gs : List (DataW H)) (before : List MemPlace)
    (hval : ∀ (j : Nat) t v, Tryd.f8.params[j]? = some t → args[j]? = some v → Value.okWide Tryd.prog W .any base t v)
    (hW : DataW.Whole enc Tryd.prog Tryd.f8.params.toList Rows.chunkBlocksSpec.vars false W args.toList ds gs before) (hL : laidMetH Tryd.prog Rows.chunkBlocksRow.laid W) :
    Calls Tryd.prog 8 args W fun e W' => ∃ v, e = .returned v ∧ Rows.chunkBlocksSpec.post enc Tryd.prog Tryd.f8 false true false false W args v W' := by
  have hT := tabs_of hL
  have hW' := hW
  obtain ⟨p, q, hA0, hV, rfl, hfz, hnd⟩ := hW
  have hA : DataW.TrodAll enc Tryd.prog W 0 (fun _ => true) true Tryd.f8.params.toList args.toList ds p := hA0
  rw [Tryd.params8] at hA hval
  obtain ⟨v0, vs0, d0, ds0, p0, q0, hargs, rfl, rfl, h0, r0⟩ := trodAll_cons hA
  obtain ⟨v1, vs1, d1, ds1, p1, q1, rfl, rfl, rfl, h1, r1⟩ := trodAll_cons r0
  obtain ⟨v2, vs2, d2, ds2, p2, q2, rfl, rfl, rfl, h2, r2⟩ := trodAll_cons r1
  obtain ⟨v3, vs3, d3, ds3, p3, q3, rfl, rfl, rfl, h3, r3⟩ := trodAll_cons r2
  obtain ⟨rfl, rfl, rfl⟩ := trodAll_nil r3
  obtain rfl : args = #[v0, v1, v2, v3] := by cases args; simp_all
  obtain ⟨rfl, rfl⟩ := trodVars_none hV
  obtain ⟨a0, rfl, rfl, rfl, w0⟩ := open_int Tryd.underlying3 (hval 0 3 v0 rfl rfl) h0
  obtain ⟨a1, rfl, rfl, rfl, w1⟩ := open_int Tryd.underlying3 (hval 1 3 v1 rfl rfl) h1
  obtain ⟨a2, rfl, rfl, rfl, w2⟩ := open_int Tryd.underlying3 (hval 2 3 v2 rfl rfl) h2
  obtain ⟨a3, rfl, rfl, rfl, w3⟩ := open_int Tryd.underlying3 (hval 3 3 v3 rfl rfl) h3
  clear hA0
  refine (walk a0 a1 a2 a3 W w0 w1 w2 w3 hT).mono fun e W' ⟨he, bel⟩ => ?_
  subst he
  exact ⟨_, rfl, _, _, _, [], _, [], hW', trodAll_mk1 (shut_bool Tryd.underlying4 _), (trodAll_cons_mk (shut_int Tryd.underlying3 w0) (trodAll_cons_mk (shut_int Tryd.underlying3 w1) (trodAll_cons_mk (shut_int Tryd.underlying3 w2) (trodAll_cons_mk (shut_int Tryd.underlying3 w3) trodAll_mk0)))), rfl, bel.frame _, fun h => by cases h⟩

def setTab (l : List Int) : Obj → Obj
  | .cells _ t frozen => .cells (l.map (Value.int .u32)).toArray t frozen
  | o => o
noncomputable def laidWorld (os : Os) : World :=
  { World.holding Tryd.prog os ⟨#[], #[], []⟩ with heap := ((World.holding Tryd.prog os ⟨#[], #[], []⟩).heap.modify 1 (setTab LO)).modify 0 (setTab HI) }
theorem laid_met (os : Os) : laidMet Tryd.prog Rows.chunkBlocksRow.laid ((laidWorld os).forCall (fun _ _ => 0) ⟨#[], #[.int .i64 0, .int .i64 0, .int .i64 0, .int .i64 0], []⟩).memory :=
  laidMet_of_run' 8 (by kernel_rfl) (by kernel_rfl)
theorem reads (os : Os) {H : Type} (enc : TypeId × Value → H) : ∃ places, DataW.whole enc Tryd.prog ((laidWorld os).forCall (fun _ _ => 0) ⟨#[], #[.int .i64 0, .int .i64 0, .int .i64 0, .int .i64 0], []⟩).memory Tryd.f8.params.toList Rows.chunkBlocksSpec.vars false #[Value.int .i64 0, Value.int .i64 0, Value.int .i64 0, Value.int .i64 0].toList 8 = some ([.lit (.int .i64 0), .lit (.int .i64 0), .lit (.int .i64 0), .lit (.int .i64 0)], [], places) :=
  ⟨[], by kernel_rfl⟩

set_option maxRecDepth 100000 in
theorem lifted (os : Os) (started : os.Started) (H : Type) (enc : TypeId × Value → H) (F : Stop.Interp) :
    ReturnsInHanded {} Tryd.checked os 8 .any ((OpenSpec.ofChange Rows.chunkBlocksSpec).preRow enc Tryd.prog Tryd.f8 Rows.chunkBlocksRow.domain false Rows.chunkBlocksRow.laid) (((OpenSpec.ofChange Rows.chunkBlocksSpec).at F).post enc Tryd.prog Tryd.f8 false true false false) := by
  obtain ⟨places, hx⟩ := reads os enc
  refine returnsInHanded_of_row (C := Tryd.checked) (s := OpenSpec.ofChange Rows.chunkBlocksSpec) own started (by kernel_rfl) Tryd.func8
    (witness_row_at (enc := enc) (C := Tryd.checked) false (laidWorld os) #[.int .i64 0, .int .i64 0, .int .i64 0, .int .i64 0] rfl (by kernel_rfl) (by kernel_rfl) (by kernel_rfl)
      (OpenSpec.preRow_of_cond 8 hx (by kernel_rfl) (fun k hk => by cases hk) (by kernel_rfl) (laid_met os))) ?_
  intro W base args ds gs before hval hW _ _ _ hL _ _
  exact contract H enc W base args ds gs before hval hW hL

theorem said : Rows.ChunkBlocksSaid :=
  OpenClaim.holds_of_cond 8 Tryd.f8 rfl rfl rfl rfl rfl rfl rfl ⟨rfl, rfl, rfl, rfl, rfl⟩ rfl rfl rfl rfl rfl (by kernel_rfl) Tryd.func8 (by kernel_rfl)
    (of_decide_eq_true (by kernel_rfl)) (by unfold Func.isWrapper; first | (rw [if_pos (by decide +kernel)]; kernel_rfl) | (rw [if_neg (by decide +kernel)]; exact ⟨rfl, rfl⟩))
    (fun os started H enc _ F => by rw [OpenClaim.pre_eq_preRow]; exact lifted os started H enc F)

theorem plain (f : FuncId) (fn : Func) (hf : Tryd.pinned.checked.prog.funcNamed "orchard/orchardlaw07.ChunkBlocks" = some f) (hfn : Tryd.pinned.checked.prog.funcs[f]? = some fn) :
    false = Tryd.pinned.checked.prog.looks [] ∧ ∀ (j : Nat) t, fn.params[j]? = some t → Tryd.pinned.checked.prog.wantsStandIn t = false := by
  obtain rfl : f = 8 := Option.some.inj ((show Tryd.prog.funcNamed "orchard/orchardlaw07.ChunkBlocks" = some 8 by kernel_rfl).symm.trans hf) |>.symm
  obtain rfl : fn = Tryd.f8 := (Option.some.inj (Tryd.func8.symm.trans hfn)).symm
  refine ⟨by kernel_rfl, fun j t ht => ?_⟩
  rw [Tryd.params8] at ht
  have hm := Array.mem_of_getElem? ht
  simp at hm
  subst hm
  exact (show Tryd.prog.wantsStandIn 3 = false by kernel_rfl)

theorem card : Rows.ChunkBlocksCardSaid :=
  Claim7.holds_tied_plain_at .later [] _ _ _ _ said (fun _ h => by cases h) (by kernel_rfl) (fun _ h => by cases h) chunkBlocks_row_tie rfl ⟨rfl, rfl⟩ (by kernel_rfl) rfl plain (by kernel_rfl)
end Go.Proofs.YtiknfifiglooeaaDoor.chunkBlocks
