/- ChunkMended: whenever the power fails while a chunk is repaired, it is there or damaged, and the others stay; no condition on the input (the two tables start as the program text lays them). -/
import Derived.Test.YtiknfifiglooeaaDoorChunkP
import Derived.Test.YtiknfifiglooeaaDoorCards
import Derived.Test.YtiknfifiglooeaaDoorTie
import Derived.ProofKit
import Derived.OpenShut
import Derived.ShutString
import Derived.ChangeOld
import Derived.Deep.DeepHandedRow
import Derived.Lib.LaidTab
import Derived.Stop.LaidErr
namespace Go.Proofs.YtiknfifiglooeaaDoor.chunkMended
open Go.ChangeShapes Go.WideShapes Go.ChangeAt Go.RowKit
open Go.ChangeMaps (open_string shut_string)
set_option linter.unusedVariables false
set_option maxRecDepth 100000
set_option maxHeartbeats 8000000 in
theorem walk (a0 a1 a2 a3 : Int) (w : World) (w0 : (Lit.int .i64 a0).wf = true) (w1 : (Lit.int .i64 a1).wf = true) (w2 : (Lit.int .i64 a2).wf = true) (w3 : (Lit.int .i64 a3).wf = true) (hT : Tabs w) :
    Calls Tryd.prog 10 #[.int .i64 a0, .int .i64 a1, .int .i64 a2, .int .i64 a3] w fun e w' => e = .returned (.bool true) ∧ Below w.heap.size w w' := by
  have HT := Lib.hid (fun (x : World) (hb : Below w.heap.size w x) => hT.below hb)
  clear hT
  obtain ⟨n, hn⟩ : ∃ n : Nat, (n : Int) = 1 + a0 % 2048 := ⟨(1 + a0 % 2048).toNat, by omega⟩
  obtain ⟨q1, hq1⟩ : ∃ q : Nat, (q : Int) = a1 % 256 := ⟨(a1 % 256).toNat, by omega⟩
  obtain ⟨t, ht⟩ : ∃ t : Int, t = a2 % 4 := ⟨_, rfl⟩
  have hand0 : bits .and .i64 a0 2047 = (n : Int) - 1 := by rw [i64_and2047]; omega
  have hand1 : bits .and .i64 a1 255 = (q1 : Int) := by rw [i64_and255, hq1]
  have hand2 : bits .and .i64 a2 3 = t := by rw [i64_and3, ht]
  have HN : Hid (1 ≤ n ∧ n ≤ 2048) := by show 1 ≤ n ∧ n ≤ 2048; omega
  have HQ1 : Hid (q1 ≤ 255) := by show q1 ≤ 255; omega
  have HTT : Hid (0 ≤ t ∧ t ≤ 3) := by show 0 ≤ t ∧ t ≤ 3; omega
  have hadd : IntKind.i64.wrap (1 + ((n : Int) - 1)) = (n : Int) := by rw [show 1 + ((n : Int) - 1) = (n : Int) by omega]; exact IntWalk.i64_in _ (by omega)
  clear hn hq1 ht w0 w1 w2 w3
  go_enter Tryd.func10, Tryd.ntmps10
  go_wp2_with fail
  refine (head7_any w HT.out).mono ?_
  rintro e w1 ⟨rfl, hb1⟩
  have HB1 := Lib.hid hb1
  clear hb1
  go_wp2_with fail
  refine (text7_any n 5 (by have := HN.out; omega) w1).mono ?_
  rintro e w2 ⟨s, rfl, hs, hb2⟩
  have HS := Lib.hid hs
  have HB2 := Lib.hid (HB1.out.trans (hb2.mono HB1.out.size))
  clear hs hb2 HB1
  go_wp2_with fail
  refine (new_any 140 w2).mono ?_
  rintro e w3 ⟨B, rfl, hd, hb3⟩
  have X3 : DevW w2.heap.size (fun _ => False) w3 B (Dv.new ((140 : Nat) : Int)) := devw_new hd (Nat.le_refl _) (fun j hj => hj.elim) hb3.size
  have HB3 := Lib.hid hb3
  have HU3 := Lib.hid (HB2.out.trans (hb3.mono HB2.out.size))
  obtain ⟨c1, n1, k1⟩ := new_calm 140 (by decide)
  have HC1 := Lib.hid c1
  have HN1 := Lib.hid n1
  have HK1 := Lib.hid k1
  have HTM := Lib.hid (fun (x : World) (hx : Below w2.heap.size w2 x) => HT.out x (HB2.out.trans (hx.mono HB2.out.size)))
  have HO := Lib.hid (st_open (M := 140) (base := 0) X3 HC1.out HN1.out (by decide) (by decide) hb3.size (HTM.out _ hb3))
  have hopn : opnC (cont (Dv.new ((140 : Nat) : Int))) 0 = (ls0, 0) := opnC_zero (fun ar n _ _ => by rw [cpC_rc0 (x := 0) (by rw [HK1.out])]; rfl)
  rw [hopn] at HO
  clear hopn X3 hd c1 n1 k1 hb3
  go_wp2_with fail
  refine HO.out.mono ?_
  rintro e w4 ⟨b, sv, ar, rfl, hbb, har, S4, hb4⟩
  obtain rfl : ar = 0 := by simpa using har
  have HS4 := Lib.hid S4
  have HB4 := Lib.hid (HB3.out.trans (hb4.mono HB3.out.size))
  have hg : (ofL 3 3 s).Good := ofL_good2 ⟨by decide, by decide⟩ ⟨by decide, by decide⟩ (by have := HS.out; have := HN.out; omega)
  have HG := Lib.hid hg
  have HP := Lib.hid (st_put 3 3 s S4 hg (by decide) (by have := HS.out; have := HN.out; omega) HB4.out.size (fun x hx => HTM.out x (HB4.out.trans hx)))
  clear S4 hb4 hbb har hg HO HB3
  go_wp2_with fail
  refine HP.out.mono ?_
  rintro e w5 ⟨rfl, E5, sv5, D5, hE5, S5, k5, hb5, hk5⟩
  rw [show nxtA ls0 0 = 0 from rfl] at S5 k5
  have HS5 := Lib.hid S5
  have HB5 := Lib.hid (HB4.out.trans hb5)
  have hk0 : cont (Dv.new ((140 : Nat) : Int)) = fun _ => (rc0, 0) := HK1.out
  rw [hk0] at k5
  have HK5 := Lib.hid k5
  clear S5 k5 hb5 hk5 hE5 HP HB4 HS4 hk0
  go_wp2_with fail
  refine (cut_any s (by have := HN.out; have := HS.out; omega) w5).mono ?_
  rintro e w6 ⟨v, rfl, hrow, hb6⟩
  obtain ⟨E6, _, S6, hown⟩ := HS5.out.growRow hrow hb6
  have HS6 := Lib.hid S6
  have HR6 := Lib.hid hrow
  have HB6 := Lib.hid (HB5.out.trans (hb6.mono HB5.out.size))
  obtain ⟨va, vc, rfl⟩ := slice_of hrow
  have HOWN := Lib.hid hown
  have hlen := cutS_length s
  have hnn : 1 ≤ cutN s.size ∧ cutN s.size ≤ 6 := by unfold cutN; have := HS.out; have := HN.out; omega
  obtain ⟨N, hNN⟩ : ∃ N, N = (cutS s).length := ⟨_, rfl⟩
  have HNN := Lib.hid hNN
  have HN6 : Hid (1 ≤ N ∧ N ≤ 6 ∧ N = cutN s.size) := by show 1 ≤ N ∧ N ≤ 6 ∧ N = cutN s.size; omega
  rw [← HNN.out]
  clear hrow hb6 HS5 HB5 hlen hnn hNN S6 hown
  obtain ⟨k, hk⟩ : ∃ k, k = q1 % N := ⟨_, rfl⟩
  have HKN : Hid (k < N) := by show k < N; rw [hk]; exact Nat.mod_lt _ (by have := HN6.out; omega)
  have hrem : (q1 : Int).tmod (N : Int) = (k : Int) := by rw [Int.tmod_eq_emod_of_nonneg (by omega), hk]; omega
  have hN0 : (N : Int) ≠ 0 := by have := HN6.out; omega
  have hN1 : ((N : Int) == 0) = false := beq_eq_false_iff_ne.2 hN0
  have hNm : ¬ (N : Int) = -1 := by omega
  have hadd2 : IntKind.i64.wrap (2 + (k : Int)) = 2 + (k : Int) := IntWalk.i64_in _ (by have := HKN.out; have := HN6.out; omega)
  clear hk
  have HLO := st_lose (2 + k) HS6.out (by have := HKN.out; have := HN6.out; omega) (Nat.le_trans (by have := HB6.out.size; omega) (Nat.le_refl _))
  rw [show ((2 + k : Nat) : Int) = 2 + (k : Int) by omega] at HLO
  have HLO2 := Lib.hid HLO
  clear HLO
  go_wp2_with fail
  refine HLO2.out.mono ?_
  rintro e w7 ⟨rfl, D7, S7, k7, hb7, hk7, hD7⟩
  have HDU := Lib.hid (lose_block (q := 2 + k) (r := chunkR 3 (k : Int) (cutAt s k)) HS6.out.calm (by rw [HS6.out.len]; have := HKN.out; have := HN6.out; omega) (by rw [HK5.out]; exact putC_ck (a := 0) (by have := HKN.out; have := HN6.out; omega)))
  rw [show ((2 + k : Nat) : Int) = 2 + (k : Int) by omega, ← hD7] at HDU
  have HB7 := Lib.hid (HB6.out.trans hb7)
  have HR7 := Lib.hid (row_kept HR6.out hk7 HOWN.out)
  have HK7 := Lib.hid k7
  have HC7 := Lib.hid S7.calm
  have HL7 : Hid (D7.bs.length = 140) := S7.len
  have HF := Lib.hid (devw_fall t (by have := HTT.out; omega) HB7.out.size S7.dev)
  have HS7 := Lib.hid S7
  clear S7 k7 hb7 hk7 HLO2 HS6 HR6 hD7
  go_wp2_with fail
  refine HF.out.mono ?_
  rintro e w8 ⟨rfl, X8, hb8, hk8⟩
  have HB8 := Lib.hid (HB7.out.trans hb8)
  have HR8 := Lib.hid (row_kept HR7.out hk8 HOWN.out)
  have HS8 := Lib.hid (HS7.out.sto.turn X8 hk8 (fun _ h => h) hb8.size)
  obtain ⟨c, hc⟩ : ∃ c, c = cutAt s k := ⟨_, rfl⟩
  have hkc : k < cutN s.size := by have := HKN.out; have := HN6.out; omega
  have HKC := Lib.hid hkc
  obtain ⟨g, gc, hgv, _, hgc⟩ := strs_at HR8.out k (by rw [cutS_length]; exact hkc)
  injection hgv with e1 e2 e3
  subst e1 e3
  rw [cutS_at s hkc, ← hc] at hgc
  have hcs := cut_size s hkc
  rw [← hc] at hcs
  have hma : matchB (ofL 3 3 s) k c = true := by rw [hc]; exact match_cut 3 3 s hkc
  have hdown : (D7.fall t).down = false := HC7.out.down
  have hcf : chunkF (D7.fall t) ((0 : Nat) : Int) ((0 : Nat) : Int) (ofL 3 3 s) k = (⟨#[]⟩, 6) := by
    rw [chunkF_cont (q := 2) hdown rfl (by show 2 + k < D7.bs.length; rw [HL7.out]; have := HKN.out; have := HN6.out; omega)]
    exact chunkC_lost (by show cont D7 (2 + k) = _; rw [HK7.out]; exact put2_same _ _ _)
  obtain ⟨V, hV⟩ : ∃ V, V = (D7.fall t).one ((2 + k : Nat) : Int) (chunkR 3 (k : Int) c) := ⟨_, rfl⟩
  have hmend : mendF (D7.fall t) ((0 : Nat) : Int) ((0 : Nat) : Int) (ofL 3 3 s) k c = V := by
    unfold mendF
    rw [if_neg (by rw [hma]; decide), hcf, if_neg (fun e => absurd (congrArg Prod.snd e) (by show ¬ (6 : Int) = 0; decide)), hV]
    rfl
  have HME := Lib.hid (cmend_any k c HS8.out (by show (3 : Int) ≠ 0; decide) (by rw [ofL_sums]; exact hkc) (by have := HKN.out; have := HN6.out; omega) (by unfold maxLen; omega) HB8.out.size (fun x hx => HTM.out x (HB8.out.trans hx)) (by show D7.writes ≤ _; rw [HC7.out.writes]; decide))
  rw [hmend] at HME
  have HCC := Lib.hid hc
  have hkh0 : (0 : Int) ≤ (k : Int) := by omega
  have hkN : (k : Int) < (N : Int) := by have := HKN.out; omega
  clear hc X8 hb8 hk8 HF HS7 hma hcf hmend hdown
  go_wp2_with fail
  refine HME.out.mono ?_
  rintro e w9 ⟨rfl, S9, hb9, hk9⟩
  have HB9 := Lib.hid (HB8.out.trans hb9)
  have HR9 := Lib.hid (row_kept HR8.out hk9 HOWN.out)
  have HX9 := Lib.hid S9.dev
  have hq : 2 + k < (D7.fall t).bs.length := by show 2 + k < D7.bs.length; rw [HL7.out]; have := HKN.out; have := HN6.out; omega
  have hbk := at_lt hq
  have hok : (chunkR 3 (k : Int) c).Ok := chunkR_ok ⟨by decide, by decide⟩ ⟨by omega, by have := HKN.out; have := HN6.out; omega⟩ (by omega)
  -- the chunk's block: lost, with the chunk's record below
  have hdur : ((D7.fall t).bs[2 + k]?.getD blk0).durable = (chunkR 3 (k : Int) c).bytes := by
    show (D7.bs[2 + k]?.getD blk0).durable = _
    obtain ⟨b5, hb5, h5⟩ := HDU.out
    rw [hb5, HCC.out]
    exact h5
  obtain ⟨p1, p2, p3⟩ := mend_power hok hq HC7.out.pend hbk hdur
  rw [← hV] at p1 p2 p3
  have HP1 := Lib.hid p1
  obtain ⟨P, hP⟩ : ∃ P : Nat → Rc × Int, P = contB D7.bs := ⟨_, rfl⟩
  have hlo : P (2 + k) = (rc0, 2) := by rw [hP]; show cont D7 (2 + k) = _; rw [HK7.out]; exact put2_same _ _ _
  have p4 := (p3 [a3]).resolve_right (fun h => h (by show contB D7.bs (2 + k) = _; rw [← hP]; exact hlo))
  obtain ⟨D9, hD9⟩ : ∃ D, D = V.2.crash [a3] := ⟨_, rfl⟩
  have hc9 : Calm D9 := by rw [hD9]; exact ⟨⟨rfl, rfl⟩, p4.1, rfl⟩
  have hl9 : D9.bs.length = 140 := by rw [hD9, crash_bs, List.length_map, p2]; exact HL7.out
  have hk9' : ∀ j, j ≠ 2 + k → cont D9 j = P j := fun j hj => by rw [hD9, cont_B, crash_bs, p4.2.1 j hj, hP]; rfl
  have hkk : cont D9 (2 + k) = (chunkR 3 (k : Int) c, 1) ∨ (cont D9 (2 + k) = (rc0, 2) ∧ V.1 ≠ 0) := by rw [hD9, cont_B, crash_bs]; exact p4.2.2
  have hPj : ∀ j, j ≠ 2 + k → P j = putC (fun _ => (rc0, 0)) 0 3 3 s j := fun j hj => by rw [hP]; show cont D7 j = _; rw [HK7.out, put2_other hj, HK5.out]
  have hal : ∀ j, j ≠ 2 + k → cont D9 j = putC (fun _ => (rc0, 0)) 0 3 3 s j := fun j hj => (hk9' j hj).trans (hPj j hj)
  have HC9 := Lib.hid hc9
  have HL9 := Lib.hid hl9
  have HKK := Lib.hid hkk
  have HAL := Lib.hid hal
  have hsz6 : s.size ≤ 25600 := by have := HS.out; have := HN.out; omega
  have hop9 : opnC (cont D9) 0 = (ofL 3 3 s, 0) := by
    refine opnC_max (ar := 0) (by omega) (by show (0 : Int) < 3; decide) ⟨0, by omega, cpC_list (x := 1) ((HAL.out 0 (by omega)).trans putC_l0) HG.out⟩ ?_
    intro ax nx h1 h2
    rcases (show ax = 0 ∨ ax = 1 by omega) with rfl | rfl
    · refine .inr ⟨rfl, ?_⟩
      rcases (show nx = 0 ∨ nx = 1 by omega) with rfl | rfl
      · exact cpC_list (x := 1) ((HAL.out 0 (by omega)).trans putC_l0) HG.out
      · exact cpC_list (x := 1) ((HAL.out 1 (by omega)).trans putC_l1) HG.out
    · refine .inl ?_
      have hkb : k < 6 := by have := HKN.out; have := HN6.out; omega
      rw [cpC_rc0 (x := 0) ((HAL.out _ (by omega)).trans (putC_out hsz6 (by omega)))]
      show (0 : Int) < 3
      decide
  have bA := (Below.refl w9.heap.size w9).alloc (Nat.le_refl _) (.cells #[.int .i64 a3] 104)
  have hvw : V.2.writes ≤ 1 := by
    rw [hV]
    refine Nat.le_trans (c_one_writes _ _ _) ?_
    show D7.writes + 1 ≤ 1
    rw [HC7.out.writes]
    omega
  have HCR := Lib.hid (devw_crash _ [a3] (by omega) (HX9.out.below bA) (fts_one w9 a3))
  rw [← hD9] at HCR
  have HBA := Lib.hid bA
  clear p1 p2 p3 p4 hlo hP hPj hal hk9' hkk hc9 hl9 hD9 hvw bA hok hdur hbk hq hV HME S9 hb9 hk9 HX9 HS8 HR8 HDU HC7 HL7 HK7
  go_wp2_with fail
  refine HCR.out.mono ?_
  rintro e w10 ⟨C, rfl, hd, hb10⟩
  have X10 : DevW w2.heap.size (fun _ => False) w10 C D9 := devw_new hd (Nat.le_trans HB9.out.size HBA.out.size) (fun j hj => hj.elim) hb10.size
  have HB10 := Lib.hid (HB9.out.trans ((HBA.out.trans (hb10.mono HBA.out.size)).mono HB9.out.size))
  have HR10 := Lib.hid (World.ownsRow_below (World.ownsRow_below HR9.out HBA.out) hb10)
  have HO := Lib.hid (st_open (M := 140) (base := 0) X10 HC9.out HL9.out (by decide) (by decide) HB10.out.size (HTM.out _ HB10.out))
  rw [hop9] at HO
  clear X10 hd hb10 HCR HBA HR9 HB9 hop9
  go_wp2_with fail
  refine HO.out.mono ?_
  rintro e w11 ⟨u, su, au, rfl, hbu, hau, S11, hb11⟩
  obtain rfl : au = 0 := by simpa using hau
  have HS11 := Lib.hid S11
  have HB11 := Lib.hid (HB10.out.trans (hb11.mono HB10.out.size))
  have HR11 := Lib.hid (World.ownsRow_below HR10.out hb11)
  obtain ⟨f, hf⟩ : ∃ f, f = V.1 := ⟨_, rfl⟩
  rw [← hf] at HP1 HKK ⊢
  clear S11 hb11 hbu hau HO HR10 HB10
  generalize (fun k => False ∨ (w10.heap.size ≤ k ∧ k < w11.heap.size)) = E11 at HS11
  have hfin : ∀ wy, Below w11.heap.size w11 wy → Below w.heap.size w wy := fun wy h => (HB2.out.trans (HB11.out.mono HB2.out.size)).trans (h.mono (Nat.le_trans HB2.out.size HB11.out.size))
  have HFIN := Lib.hid hfin
  clear hfin
  rcases HP1.out with hf0 | hf5
  all_goals
    subst f
    clear HP1
    first | rw [hf0] at HKK ⊢ | rw [hf5] at HKK ⊢
    go_wp2_with fail
    go_loopw [86] (fun iv wx => ∃ i : Nat, i ≤ N ∧ iv = .int .i64 (i : Int) ∧ Hid (Below w11.heap.size w11 wx)) (fun iv _ => N - (intOf iv).toNat)
    case atStart => exact ⟨0, Nat.zero_le _, rfl, Lib.hid (Below.refl _ _)⟩
    case round =>
      obtain ⟨i, hi, rfl, HBX⟩ := hrel
      by_cases hlt : i < N
      · have hlt' : (i : Int) < (N : Int) := by omega
        have hi0 : (0 : Int) ≤ (i : Int) := by omega
        have hic : i < cutN s.size := by have := HN6.out; omega
        obtain ⟨g2, gc2, hgv2, _, hgc2⟩ := strs_at (World.ownsRow_below HR11.out HBX.out) i (by rw [cutS_length]; exact hic)
        injection hgv2 with e1 e2 e3
        injection e1 with e1
        injection e1 with e1 _ _
        subst e1 e3
        rw [cutS_at s hic] at hgc2
        have HCH := Lib.hid (st_chunk i (HS11.out.below HBX.out) HG.out (by rw [ofL_sums]; exact hic) (HTM.out _ (HB11.out.trans (HBX.out.mono HB11.out.size))))
        have HW : Hid (wrap64 ((i : Int) + 1) = (i : Int) + 1) := IntWalk.wrap64_in _ (by have := HN6.out; omega)
        have HLT := Lib.hid hlt
        by_cases hik : i = k
        · subst hik
          have hii : ((i : Int) == (i : Int)) = true := by simp
          have hii2 : ((i : Int) != (i : Int)) = false := by simp
          rcases HKK.out with hgood | ⟨hbad, hv⟩
          · have hck : chunkC (cont D9) (0 + 0 * 66 + 2) (ofL 3 3 s) i = (cutAt s i, 0) := chunkC_good (by show cont D9 (2 + i) = _; rw [hgood, HCC.out]) hic
            rw [hck] at HCH
            clear hck hlt hi
            go_wp2_with fail
            refine HCH.out.mono ?_
            rintro e w12 ⟨rfl, hb12⟩
            have HB12 := Lib.hid (HBX.out.trans (hb12.mono HBX.out.size))
            go_wp2_with fail
            try rw [HW.out]
            refine ⟨⟨i + 1, HLT.out, by simp, HB12⟩, ?_⟩
            have := HLT.out
            simp [intOf]
            omega
          · have hck : chunkC (cont D9) (0 + 0 * 66 + 2) (ofL 3 3 s) i = (⟨#[]⟩, 6) := chunkC_lost hbad
            rw [hck] at HCH
            clear hck hlt hi
            first
              | exact absurd rfl hv
              | (go_wp2_with fail
                 refine HCH.out.mono ?_
                 rintro e w12 ⟨rfl, hb12⟩
                 have HB12 := Lib.hid (HBX.out.trans (hb12.mono HBX.out.size))
                 go_wp2_with fail
                 try rw [HW.out]
                 refine ⟨⟨i + 1, HLT.out, by simp, HB12⟩, ?_⟩
                 have := HLT.out
                 simp [intOf]
                 omega)
        · have hii : ((i : Int) == (k : Int)) = false := beq_eq_false_iff_ne.2 (by omega)
          have hii2 : ((i : Int) != (k : Int)) = true := by simp; omega
          have hck : chunkC (cont D9) (0 + 0 * 66 + 2) (ofL 3 3 s) i = (cutAt s i, 0) := chunkC_good ((HAL.out (2 + i) (by omega)).trans (putC_ck (a := 0) hic)) hic
          rw [hck] at HCH
          clear hck hlt hi
          go_wp2_with fail
          refine HCH.out.mono ?_
          rintro e w12 ⟨rfl, hb12⟩
          have HB12 := Lib.hid (HBX.out.trans (hb12.mono HBX.out.size))
          go_wp2_with fail
          try rw [HW.out]
          refine ⟨⟨i + 1, HLT.out, by simp, HB12⟩, ?_⟩
          have := HLT.out
          simp [intOf]
          omega
      · obtain rfl : i = N := by omega
        have hge : ¬ ((i : Int) < (i : Int)) := by omega
        have HE := Lib.hid (HFIN.out _ HBX.out)
        go_wp2_with fail
        go_ret
        exact ⟨rfl, HE.out⟩

theorem own : ownKnob Tryd.prog.godebug = none := by kernel_rfl
theorem laidOut : laidOutB Tryd.prog = true := by kernel_rfl
theorem gHi : Tryd.prog.globalNamed "orchard/sum.highTable" = some 0 := by kernel_rfl
theorem gLo : Tryd.prog.globalNamed "orchard/sum.lowTable" = some 1 := by kernel_rfl
theorem gHiType : (Tryd.prog.globals[0]?).map (·.type) = some 187 := by kernel_rfl
theorem gLoType : (Tryd.prog.globals[1]?).map (·.type) = some 187 := by kernel_rfl
theorem cellsTab : Tryd.prog.cellsOf 187 = 16 := by kernel_rfl
theorem cellsSum : Tryd.prog.cellsOf 70 = 1 := by kernel_rfl

theorem table_lo {W : World} (h : laidMetH Tryd.prog Rows.chunkMendedRow.laid W) : Lib.TabIs Tryd.prog W "orchard/sum.lowTable" .u32 LO :=
  Lib.tabIs_of_head (rest := [("orchard/sum.highTable", Rows.laid_orchard_sum_highTable)]) gLo gLoType Tryd.underlying187 Tryd.underlying70 cellsSum cellsTab h
theorem table_hi {W : World} (h : laidMetH Tryd.prog Rows.chunkMendedRow.laid W) : Lib.TabIs Tryd.prog W "orchard/sum.highTable" .u32 HI :=
  Lib.tabIs_of_head (rest := []) gHi gHiType Tryd.underlying187 Tryd.underlying70 cellsSum cellsTab (laidMet.tail (show laidMet Tryd.prog [("orchard/sum.lowTable", Rows.laid_orchard_sum_lowTable), ("orchard/sum.highTable", Rows.laid_orchard_sum_highTable)] W from h))
theorem tabs_of {W : World} (h : laidMetH Tryd.prog Rows.chunkMendedRow.laid W) : Tabs W := by
  have c0 := fun (j : Nat) (hj : j < 16) => (table_hi h).cell gHi j hj
  have c1 := fun (j : Nat) (hj : j < 16) => (table_lo h).cell gLo j hj
  refine ⟨⟨World.block_lt_of_cell? W _ (c0 0 (by decide)), World.block_lt_of_cell? W _ (c1 0 (by decide))⟩, fun j hj => ?_, fun j hj => ?_⟩
  · rw [c0 j hj, hi_cast j]
  · rw [c1 j hj, lo_cast j]

theorem contract (H : Type) (enc : TypeId × Value → H) (W : World) (base : Nat) (args : Array Value) (ds gs : List (DataW H)) (before : List MemPlace)
    (hval : ∀ (j : Nat) t v, Tryd.f10.params[j]? = some t → args[j]? = some v → Value.okWide Tryd.prog W .any base t v)
    (hW : DataW.Whole enc Tryd.prog Tryd.f10.params.toList Rows.chunkMendedSpec.vars false W args.toList ds gs before) (hL : laidMetH Tryd.prog Rows.chunkMendedRow.laid W) :
    Calls Tryd.prog 10 args W fun e W' => ∃ v, e = .returned v ∧ Rows.chunkMendedSpec.post enc Tryd.prog Tryd.f10 false true false false W args v W' := by
  have hT := tabs_of hL
  have hW' := hW
  obtain ⟨p, q, hA0, hV, rfl, hfz, hnd⟩ := hW
  have hA : DataW.TrodAll enc Tryd.prog W 0 (fun _ => true) true Tryd.f10.params.toList args.toList ds p := hA0
  rw [Tryd.params10] at hA hval
  obtain ⟨v0, vs0, d0, ds0, p0, q0, hargs, rfl, rfl, h0, r0⟩ := trodAll_cons hA
  obtain ⟨v1, vs1, d1, ds1, p1, q1, rfl, rfl, rfl, h1, r1⟩ := trodAll_cons r0
  obtain ⟨v2, vs2, d2, ds2, p2, q2, rfl, rfl, rfl, h2, r2⟩ := trodAll_cons r1
  obtain ⟨v3, vs3, d3, ds3, p3, q3, rfl, rfl, rfl, h3, r3⟩ := trodAll_cons r2
  obtain ⟨rfl, rfl, rfl⟩ := trodAll_nil r3
  obtain rfl : args = #[v0, v1, v2, v3] := by cases args; simp_all
  obtain ⟨rfl, rfl⟩ := trodVars_none hV
  obtain ⟨a0, rfl, rfl, rfl, w0⟩ := open_int Tryd.underlying3 (hval 0 3 v0 rfl rfl) h0
  obtain ⟨a1, rfl, rfl, rfl, w1⟩ := open_int Tryd.underlying3 (hval 1 3 v1 rfl rfl) h1
  obtain ⟨a2, rfl, rfl, rfl, w2⟩ := open_int Tryd.underlying3 (hval 2 3 v2 rfl rfl) h2
  obtain ⟨a3, rfl, rfl, rfl, w3⟩ := open_int Tryd.underlying104 (hval 3 104 v3 rfl rfl) h3
  clear hA0
  refine (walk a0 a1 a2 a3 W w0 w1 w2 w3 hT).mono fun e W' ⟨he, bel⟩ => ?_
  subst he
  exact ⟨_, rfl, _, _, _, [], _, [], hW', trodAll_mk1 (shut_bool Tryd.underlying4 _), (trodAll_cons_mk (shut_int Tryd.underlying3 w0) (trodAll_cons_mk (shut_int Tryd.underlying3 w1) (trodAll_cons_mk (shut_int Tryd.underlying3 w2) (trodAll_cons_mk (shut_int Tryd.underlying104 w3) trodAll_mk0)))), rfl, bel.frame _, fun h => by cases h⟩

def setTab (l : List Int) : Obj → Obj
  | .cells _ t frozen => .cells (l.map (Value.int .u32)).toArray t frozen
  | o => o
noncomputable def laidWorld (os : Os) : World :=
  { World.holding Tryd.prog os ⟨#[], #[], []⟩ with heap := ((World.holding Tryd.prog os ⟨#[], #[], []⟩).heap.modify 1 (setTab LO)).modify 0 (setTab HI) }
theorem laid_met (os : Os) : laidMet Tryd.prog Rows.chunkMendedRow.laid ((laidWorld os).forCall (fun _ _ => 0) ⟨#[], #[.int .i64 0, .int .i64 0, .int .i64 0, .int .i64 0], []⟩).memory :=
  laidMet_of_run' 8 (by kernel_rfl) (by kernel_rfl)
theorem reads (os : Os) {H : Type} (enc : TypeId × Value → H) : ∃ places, DataW.whole enc Tryd.prog ((laidWorld os).forCall (fun _ _ => 0) ⟨#[], #[.int .i64 0, .int .i64 0, .int .i64 0, .int .i64 0], []⟩).memory Tryd.f10.params.toList Rows.chunkMendedSpec.vars false #[Value.int .i64 0, Value.int .i64 0, Value.int .i64 0, Value.int .i64 0].toList 8 = some ([.lit (.int .i64 0), .lit (.int .i64 0), .lit (.int .i64 0), .lit (.int .i64 0)], [], places) :=
  ⟨[], by kernel_rfl⟩

set_option maxRecDepth 100000 in
theorem lifted (os : Os) (started : os.Started) (H : Type) (enc : TypeId × Value → H) (F : Stop.Interp) :
    ReturnsInHanded {} Tryd.checked os 10 .any ((OpenSpec.ofChange Rows.chunkMendedSpec).preRow enc Tryd.prog Tryd.f10 Rows.chunkMendedRow.domain false Rows.chunkMendedRow.laid) (((OpenSpec.ofChange Rows.chunkMendedSpec).at F).post enc Tryd.prog Tryd.f10 false true false false) := by
  obtain ⟨places, hx⟩ := reads os enc
  refine returnsInHanded_of_row (C := Tryd.checked) (s := OpenSpec.ofChange Rows.chunkMendedSpec) own started (by kernel_rfl) Tryd.func10
    (witness_row_at (enc := enc) (C := Tryd.checked) false (laidWorld os) #[.int .i64 0, .int .i64 0, .int .i64 0, .int .i64 0] rfl (by kernel_rfl) (by kernel_rfl) (by kernel_rfl)
      (OpenSpec.preRow_of_cond 8 hx (by kernel_rfl) (fun k hk => by cases hk) (by kernel_rfl) (laid_met os))) ?_
  intro W base args ds gs before hval hW _ _ _ hL _ _
  exact contract H enc W base args ds gs before hval hW hL

theorem said : Rows.ChunkMendedSaid :=
  OpenClaim.holds_of_cond 10 Tryd.f10 rfl rfl rfl rfl rfl rfl rfl ⟨rfl, rfl, rfl, rfl, rfl⟩ rfl rfl rfl rfl rfl (by kernel_rfl) Tryd.func10 (by kernel_rfl)
    (of_decide_eq_true (by kernel_rfl)) (by unfold Func.isWrapper; first | (rw [if_pos (by decide +kernel)]; kernel_rfl) | (rw [if_neg (by decide +kernel)]; exact ⟨rfl, rfl⟩))
    (fun os started H enc _ F => by rw [OpenClaim.pre_eq_preRow]; exact lifted os started H enc F)

theorem plain (f : FuncId) (fn : Func) (hf : Tryd.pinned.checked.prog.funcNamed "orchard/orchardlaw07.ChunkMended" = some f) (hfn : Tryd.pinned.checked.prog.funcs[f]? = some fn) :
    false = Tryd.pinned.checked.prog.looks [] ∧ ∀ (j : Nat) t, fn.params[j]? = some t → Tryd.pinned.checked.prog.wantsStandIn t = false := by
  obtain rfl : f = 10 := Option.some.inj ((show Tryd.prog.funcNamed "orchard/orchardlaw07.ChunkMended" = some 10 by kernel_rfl).symm.trans hf) |>.symm
  obtain rfl : fn = Tryd.f10 := (Option.some.inj (Tryd.func10.symm.trans hfn)).symm
  refine ⟨by kernel_rfl, fun j t ht => ?_⟩
  rw [Tryd.params10] at ht
  have hm := Array.mem_of_getElem? ht
  simp at hm
  rcases hm with rfl | rfl
  · exact (show Tryd.prog.wantsStandIn 3 = false by kernel_rfl)
  · exact (show Tryd.prog.wantsStandIn 104 = false by kernel_rfl)

theorem card : Rows.ChunkMendedCardSaid :=
  Claim7.holds_tied_plain_at .later [] _ _ _ _ said (fun _ h => by cases h) (by kernel_rfl) (fun _ h => by cases h) chunkMended_row_tie rfl ⟨rfl, rfl⟩ (by kernel_rfl) rfl plain (by kernel_rfl)
end Go.Proofs.YtiknfifiglooeaaDoor.chunkMended
