/- Law 7, harms: damaged chunks are told, and mended; the others are as they were. No conditions beyond those in each statement. -/
import Derived.Test.YtiknfifiglooeaaDoorChunkHs
import Derived.Test.YtiknfifiglooeaaDoorCards
import Derived.Test.YtiknfifiglooeaaDoorTie
import Derived.ProofKit
import Derived.OpenShut
import Derived.ShutString
import Derived.ChangeOld
import Derived.Deep.DeepHandedRow
import Derived.Lib.LaidTab
import Derived.Stop.LaidErr
namespace Go.Proofs.YtiknfifiglooeaaDoor.chunkHarms
open Go.ChangeShapes Go.WideShapes Go.ChangeAt Go.RowKit
open Go.ChangeMaps (open_string shut_string)
set_option linter.unusedVariables false
set_option maxRecDepth 100000
set_option maxHeartbeats 16000000 in
theorem walk (a0 a1 : Int) (v2 : Value) (zs : List Int) (a3 : Int) (a4 : Int) (w : World) (w0 : (Lit.int .i64 a0).wf = true) (w1 : (Lit.int .i64 a1).wf = true) (w2 : Fts w v2 zs) (w3 : (Lit.int .u8 a3).wf = true) (w4 : (Lit.int .i64 a4).wf = true) (hT : Tabs w) :
    Calls Tryd.prog 7 #[.int .i64 a0, .int .i64 a1, v2, .int .u8 a3, .int .i64 a4] w fun e w' => e = .returned (.bool true) ∧ Below w.heap.size w w' := by
  have HT := Lib.hid (fun (x : World) (hb : Below w.heap.size w x) => hT.below hb)
  obtain ⟨va, vcap, rfl, hlen, _⟩ := id w2
  unfold maxLen at hlen
  have HZ := Lib.hid w2
  obtain ⟨n, hn⟩ : ∃ n : Nat, (n : Int) = a0 % 4096 := ⟨(a0 % 4096).toNat, by omega⟩
  have hand0 : bits .and .i64 a0 4095 = (n : Int) := by rw [i64_and4095, hn]
  obtain ⟨q0, hq0⟩ : ∃ q : Nat, (q : Int) = a4 % 2 := ⟨(a4 % 2).toNat, by omega⟩
  have hand4 : bits .and .i64 a4 1 = (q0 : Int) := by rw [i64_and1, hq0]
  have HQ0 : Hid (q0 ≤ 1) := by show q0 ≤ 1; omega
  have HN : Hid (n ≤ 4095) := by show n ≤ 4095; omega
  obtain ⟨bt, hbt⟩ : ∃ q : Nat, a3 = (q : Int) ∧ q < 256 := by
    have h := (Lit.wf_int_iff .u8 a3).1 w3
    rw [show IntKind.u8.min = 0 by decide, show IntKind.u8.max = 255 by decide] at h
    exact ⟨a3.toNat, by omega, by omega⟩
  obtain ⟨rfl, hbt⟩ := hbt
  have HBT := Lib.hid hbt
  clear hT w0 w1 w2 w3 w4 hn hq0 hbt
  go_enter Tryd.func7, Tryd.ntmps7
  go_wp2_with fail
  refine (head7_any w HT.out).mono ?_
  rintro e w1 ⟨rfl, hb1⟩
  have HB1 := Lib.hid hb1
  by_cases hfew : 20 < zs.length
  · have hd : decide ((20 : Int) < (zs.length : Int)) = true := by simp; omega
    have hd2 : decide ((zs.length : Int) > 20) = true := by simp; omega
    clear hfew hlen
    go_wp2_with fail
    go_ret
    exact ⟨rfl, HB1.out⟩
  have hd : decide ((20 : Int) < (zs.length : Int)) = false := by simp; omega
  have hd2 : decide ((zs.length : Int) > 20) = false := by simp; omega
  have HLEN : Hid (zs.length ≤ 20) := by show _ ≤ _; omega
  clear hfew hlen hb1
  go_wp2_with fail
  refine (text7_any n a1 (by have := HN.out; omega) w1).mono ?_
  rintro e w2 ⟨t, rfl, hts, hb2⟩
  have HS : Hid (t.size ≤ 4095) := by show _ ≤ _; have := HN.out; omega
  have HB2 := Lib.hid (HB1.out.trans (hb2.mono HB1.out.size))
  clear hts hb2 HB1 hand0 HN
  go_wp2_with fail
  refine (new_any 200 w2).mono ?_
  rintro e w3 ⟨B, rfl, hd3, hb3⟩
  have X3 : DevW w.heap.size (fun _ => False) w3 B (Dv.new ((200 : Nat) : Int)) := devw_new hd3 HB2.out.size (fun j hj => hj.elim) hb3.size
  have HB3 := Lib.hid (HB2.out.trans (hb3.mono HB2.out.size))
  obtain ⟨c1, n1, k1⟩ := new_calm 200 (by decide)
  have HC1 := Lib.hid c1
  have HN1 := Lib.hid n1
  have HK1 := Lib.hid k1
  have HO := Lib.hid (st_open (M := 200) (base := 0) X3 HC1.out HN1.out (by decide) (by decide) HB3.out.size (HT.out _ HB3.out))
  have hopn : opnC (cont (Dv.new ((200 : Nat) : Int))) 0 = (ls0, 0) := opnC_zero (fun ar n _ _ => by rw [cpC_rc0 (x := 0) (by rw [HK1.out])]; rfl)
  rw [hopn] at HO
  clear hopn X3 hd3 c1 n1 k1 hb3 HB2
  go_wp2_with fail
  refine HO.out.mono ?_
  rintro e w4 ⟨b, sv, ar, rfl, hbb, har, S4, hb4⟩
  obtain rfl : ar = 0 := by simpa using har
  have hg : (ofL 7 2 t).Good := ofL_good2 ⟨by decide, by decide⟩ ⟨by decide, by decide⟩ (by have := HS.out; omega)
  have HG := Lib.hid hg
  have HB4 := Lib.hid (HB3.out.trans (hb4.mono HB3.out.size))
  have HP := Lib.hid (st_put 7 2 t S4 hg (by decide) (by have := HS.out; omega) HB4.out.size (fun x hx => HT.out x (HB4.out.trans hx)))
  clear S4 hb4 hbb har hg HO HB3
  go_wp2_with (go_at_call 36; refine HP.out.mono ?_; rintro e w5 ⟨rfl, E5, sv5, D5, hE5, S5, k5, hb5, hk5, hD5⟩)
  rw [show nxtA ls0 0 = 0 from rfl] at S5 k5
  rw [HK1.out] at k5
  have hcl : Cln D5 := by rw [hD5]; exact cln_putP (cln_new 200) _ _ _ _ _ _
  have HCL := Lib.hid hcl
  have hn := cutN_le.2 (show t.size ≤ 25600 by have := HS.out; omega)
  have HHM : Hid (Hm D5 t (fun _ => false)) := ⟨fun k hk => by rw [if_neg (by decide), k5]; exact putC_ck (a := 0) hk, fun j hj => by rw [k5, putC_out (a := 0) (by have := HS.out; omega) (by omega)]⟩
  have HL0 : Hid (cont D5 0 = (listR (ofL 7 2 t), 1) ∧ cont D5 1 = (listR (ofL 7 2 t), 1)) := ⟨by rw [k5]; exact putC_l0 (a := 0), by rw [k5]; exact putC_l1 (a := 0)⟩
  have HS5 := Lib.hid S5
  have HB5 := Lib.hid (HB4.out.trans hb5)
  clear S5 k5 hb5 hk5 hE5 hD5 hcl HP HB4 HC1 HN1 HK1 hn
  refine (cut_any t (by have := HS.out; omega) w5).mono ?_
  rintro e w6 ⟨pv, rfl, hrow, hb6⟩
  obtain ⟨E6, _, S6, hown⟩ := HS5.out.growRow hrow hb6
  have HB6 := Lib.hid (HB5.out.trans (hb6.mono HB5.out.size))
  have HSV : Hid (b ≠ w6.heap.size ∧ (∀ g, sv5.ownBlock = some g → g ≠ w6.heap.size) ∧ ∀ g, pv.ownBlock = some g → g ≠ w6.heap.size) :=
    ⟨by have := S6.lt' b S6.sto.eb; omega, fun g hg => by have := S6.lt' g (S6.sto.own g hg).1; omega, fun g hg => by have := S6.lt' g (hown g hg); omega⟩
  have bA := (Below.refl w6.heap.size w6).alloc (Nat.le_refl _) (.map #[] 0)
  have M7 := BadI.new w6 (cutN t.size)
  obtain ⟨mb, hmb⟩ : ∃ q, q = w6.heap.size := ⟨_, rfl⟩
  have H7 : HrW w.heap.size (fun k => E6 k ∨ (w6.heap.size ≤ k ∧ k < (w6.alloc (.map #[] 0)).heap.size)) (w6.alloc (.map #[] 0)) b B w6.heap.size w5.heap.size pv t 0 (fun _ => false) sv5 D5 :=
    ⟨S6.grow bA, HHM.out, M7, row_kept hrow ((Kept.of_below (fun k hk => S6.lt' k hk) bA).mono (fun k hk => hk)) hown, .inr ⟨Nat.le_refl _, M7.lt⟩, fun g hg => .inl (hown g hg)⟩
  have B7 := HB6.out.trans (bA.mono HB6.out.size)
  have HMB : Hid (w.heap.size ≤ mb) := by show _ ≤ _; rw [hmb]; exact HB6.out.size
  rw [← hmb] at H7 HSV
  obtain ⟨pa, pc, rfl⟩ := slice_of hrow
  generalize (fun k => E6 k ∨ (mb ≤ k ∧ k < (w6.alloc (.map #[] 0)).heap.size)) = E7 at H7
  have hlen := cutS_length t
  rw [hlen]
  rw [hlen] at HSV H7
  have HLC := Lib.hid hlen
  have HNN : Hid (cutN t.size ≤ 11) := by show _ ≤ _; unfold cutN; have := HS.out; omega
  clear S6 hown hrow hb6 HS5 HB5 bA M7 HB6 HHM hlen
  obtain ⟨N, hN⟩ : ∃ N, N = cutN t.size := ⟨_, rfl⟩
  have HNE := Lib.hid hN
  rw [← hN] at HSV H7 ⊢
  clear hN
  have rMk := run_mkH w6
  go_upto_region 13 with fail
  clear rMk
  rw [← hmb]
  generalize w6.alloc (.map #[] 0) = w7 at H7 B7 ⊢
  have HH7 := Lib.hid H7
  have HB7 := Lib.hid B7
  clear H7 B7 hmb
  go_upto_block 0 with fail
  go_cut [16] (fun mv wx => mv = .map (some mb) ∧ ∃ (c : Nat) (S : Nat → Bool) (D : Dv), HrW w.heap.size E7 wx b B mb w5.heap.size (.slice pa N pc) t c S sv5 D ∧ cont D 0 = (listR (ofL 7 2 t), 1) ∧ cont D 1 = (listR (ofL 7 2 t), 1) ∧ Below w.heap.size w wx)
  case first =>
    go_wp2_with fail
    go_loopw [62] (fun iv wx => ∃ (k c : Nat) (S : Nat → Bool) (D : Dv), k ≤ zs.length ∧ iv = .int .i64 (k : Int) ∧ c ≤ k ∧ HrW w.heap.size E7 wx b B mb w5.heap.size (.slice pa N pc) t c S sv5 D ∧ Spo D t S ∧ cont D 0 = (listR (ofL 7 2 t), 1) ∧ cont D 1 = (listR (ofL 7 2 t), 1) ∧ Below w.heap.size w wx) (fun iv _ => zs.length - (intOf iv).toNat)
    case atStart => exact ⟨0, 0, _, _, Nat.zero_le _, rfl, Nat.le_refl _, HH7.out, HCL.out.spo t _, HL0.out.1, HL0.out.2, HB7.out⟩
    case round =>
      obtain ⟨k, c, S, D, hk, rfl, hck, Hk, hsp, hc0, hc1, Bk⟩ := hrel
      clear HH7 HB7
      have HHK := Lib.hid Hk
      have HBK := Lib.hid Bk
      have HC0 := Lib.hid hc0
      have HC1 := Lib.hid hc1
      clear Hk Bk hc0 hc1
      by_cases hlt : k < zs.length
      case neg =>
        obtain rfl : k = zs.length := by omega
        have hge : ¬ ((zs.length : Int) < (zs.length : Int)) := by omega
        go_wp2_with fail
        go_meet
        exact ⟨rfl, c, S, D, HHK.out, HC0.out, HC1.out, HBK.out⟩
      have hlt' : (k : Int) < (zs.length : Int) := by omega
      have hk0 : (0 : Int) ≤ (k : Int) := by omega
      have HWK : Hid (wrap64 ((k : Int) + 1) = (k : Int) + 1) := IntWalk.wrap64_in _ (by have := HLEN.out; omega)
      obtain ⟨g, off, hga, hcell⟩ : ∃ g off, va = some ⟨g, off, none⟩ ∧ wr.cell? ⟨g, off + k, none⟩ = some (.int .i64 (zs.getD k 0)) := by
        obtain ⟨a, cap, hv, _, h⟩ := HZ.out.below HBK.out
        simp only [Value.slice.injEq] at hv
        obtain ⟨rfl, _, _⟩ := hv
        rcases h with h | ⟨g, off, ha, _, hc⟩
        · omega
        · exact ⟨g, off, ha, hc k hlt⟩
      subst hga
      generalize zs.getD k 0 = z at hcell
      by_cases hN0 : N = 0
      · have e0 : ((N : Int) == 0) = true := by rw [hN0]; rfl
        have e1 : (N : Int) = 0 := by omega
        go_wp2_with fail
        go_meet
        exact ⟨rfl, c, S, D, HHK.out, HC0.out, HC1.out, HBK.out⟩
      have e0 : ((N : Int) == 0) = false := beq_eq_false_iff_ne.2 (by omega)
      have e1 : ¬ (N : Int) = 0 := by omega
      have e2 : ¬ (N : Int) = -1 := by omega
      obtain ⟨q, hq⟩ : ∃ q : Nat, (q : Int) = (z % 256) % (N : Int) := ⟨((z % 256) % (N : Int)).toNat, by have := Int.emod_nonneg (z % 256) (b := (N : Int)) (by omega); omega⟩
      have hqN : q < N := by have := Int.emod_lt_of_pos (z % 256) (b := (N : Int)) (by omega); omega
      have hand : bits .and .i64 z 255 = z % 256 := i64_and255 z
      have hrem : (z % 256).tmod (N : Int) = (q : Int) := by rw [Int.tmod_eq_emod_of_nonneg (by omega)]; exact hq.symm
      have HQN : Hid (q < cutN t.size) := by show q < cutN t.size; rw [← HNE.out]; exact hqN
      have HN12 : Hid (cutN t.size < 1000) := by show _ < _; have := HNN.out; omega
      have hlook := HHK.out.bad.look HQN.out HN12.out
      have HCK := Lib.hid hck
      have HK := Lib.hid hlt
      have HSP := Lib.hid hsp
      clear hk hck hlt hsp hq hqN hN0
      by_cases hSq : S q = true
      · rw [hSq] at hlook
        go_wp2_with fail
        go_roundw
        case rel => exact ⟨k + 1, c, S, D, HK.out, by rw [HWK.out]; rfl, by have := HCK.out; omega, HHK.out, HSP.out, HC0.out, HC1.out, HBK.out⟩
        case measure => rw [HWK.out]; simp [intOf]; have := HK.out; omega
      have hSq' : S q = false := by simpa using hSq
      rw [hSq'] at hlook
      obtain ⟨w8, rS, M8, g8⟩ := HHK.out.bad.store (k := q) (by have := HCK.out; have := HK.out; have := HLEN.out; omega) HQN.out HN12.out hSq'
      obtain ⟨S8, HT8⟩ := HHK.out.stored (k := q) g8 M8 HSV.out
      have B8 : Below w.heap.size w w8 := below_turned HBK.out g8 HBK.out.size HMB.out
      have HB8 := Lib.hid B8
      have HT8' := Lib.hid HT8
      have e2q : IntKind.i64.wrap (2 + (q : Int)) = 2 + (q : Int) := IntWalk.i64_in _ (by have := HQN.out; have := HN12.out; omega)
      clear g8 M8 HT8
      by_cases hb0 : bt = 0
      · have HL := Lib.hid (hit_lose q S8 HHK.out.hm HSP.out HG.out HQN.out B8.size)
        rw [show ((2 + q : Nat) : Int) = 2 + (q : Int) by omega] at HL
        have f0 : ((bt : Int) == 0) = true := by rw [hb0]; rfl
        have f1 : decide ((bt : Int) = 0) = true := decide_eq_true (by omega)
        clear S8 B8 hb0
        go_wp2_with fail
        refine HL.out.mono ?_
        rintro e w9 ⟨rfl, h9⟩
        obtain ⟨D9, H9, sp9, c9, d9, B9⟩ := HT8'.out w9 h9
        have HH9 := Lib.hid H9
        have HSP9 := Lib.hid sp9
        have HC9 := Lib.hid (And.intro (c9.trans HC0.out) (d9.trans HC1.out))
        have HB9 := Lib.hid (HB8.out.trans B9)
        clear H9 sp9 c9 d9 B9 h9 HL HT8' rS hlook
        go_wp2_with fail
        go_roundw
        case rel => exact ⟨k + 1, c + 1, _, D9, HK.out, by rw [HWK.out]; rfl, by have := HCK.out; omega, HH9.out, HSP9.out, HC9.out.1, HC9.out.2, HB9.out⟩
        case measure => rw [HWK.out]; simp [intOf]; have := HK.out; omega
      · obtain ⟨av, hav⟩ : ∃ av : Int, bits .and .i64 (z / 256) 65535 = av := ⟨_, rfl⟩
        have hav2 : 0 ≤ av ∧ av < 65536 := by rw [i64_and65535] at hav; omega
        have HL := Lib.hid (hit_flip q av bt hb0 HBT.out ⟨by omega, by omega⟩ S8 HHK.out.hm HSP.out HG.out HQN.out hSq' B8.size)
        rw [show ((2 + q : Nat) : Int) = 2 + (q : Int) by omega] at HL
        have f0 : ((bt : Int) == 0) = false := beq_eq_false_iff_ne.2 (by omega)
        have f1 : decide ((bt : Int) = 0) = false := decide_eq_false (by omega)
        clear S8 B8 hav2 hb0
        go_wp2_with fail
        refine HL.out.mono ?_
        rintro e w9 ⟨rfl, h9⟩
        obtain ⟨D9, H9, sp9, c9, d9, B9⟩ := HT8'.out w9 h9
        have HH9 := Lib.hid H9
        have HSP9 := Lib.hid sp9
        have HC9 := Lib.hid (And.intro (c9.trans HC0.out) (d9.trans HC1.out))
        have HB9 := Lib.hid (HB8.out.trans B9)
        clear H9 sp9 c9 d9 B9 h9 HL HT8' rS hlook hav
        go_wp2_with fail
        go_roundw
        case rel => exact ⟨k + 1, c + 1, _, D9, HK.out, by rw [HWK.out]; rfl, by have := HCK.out; omega, HH9.out, HSP9.out, HC9.out.1, HC9.out.2, HB9.out⟩
        case measure => rw [HWK.out]; simp [intOf]; have := HK.out; omega
  case rest =>
    as_aux_lemma =>
    obtain ⟨rfl, c, S, D, H8, l0, l1, B8⟩ := hcut
    have HL := Lib.hid (hr_lose q0 H8 HG.out HQ0.out l0 l1 B8.size)
    have HB8 := Lib.hid B8
    clear H8 l0 l1 B8 HH7 HB7 HL0 HCL HSV HZ
    go_wp2_with fail
    refine HL.out.mono ?_
    rintro e w8 ⟨rfl, D8, H8, Q8, B8'⟩
    have HH8 := Lib.hid H8
    have HQ8 := Lib.hid Q8
    have HB8' := Lib.hid (HB8.out.trans B8')
    have hxor := xor1_q HQ0.out
    clear H8 Q8 B8' HL HB8
    go_wp2_with fail
    go_loopw [13, 20] (fun sw iw wx => ∃ (i : Nat) (E : Nat → Prop) (b : Nat) (sv : Value) (D : Dv), i ≤ 2 ∧ sw = .pointer (some ⟨b, 0, none⟩) ∧ iw = .int .i64 (i : Int) ∧ HrW w.heap.size E wx b B mb w5.heap.size (.slice pa N pc) t c S sv D ∧ (∃ q, Lq D t q) ∧ Below w.heap.size w wx) (fun _ iw _ => 2 - (intOf iw).toNat)
    case atStart => exact ⟨0, E7, b, sv5, D8, by omega, rfl, rfl, HH8.out, HQ8.out, HB8'.out⟩
    case round =>
      obtain ⟨i, E, b2, sv2, D2, hi, rfl, rfl, H2, Q2, B2⟩ := hrel
      clear HH8 HQ8 HB8'
      have HH2 := Lib.hid H2
      have HB2 := Lib.hid B2
      have HQ2 := Lib.hid Q2
      clear H2 B2 Q2
      by_cases hi2 : i < 2
      case neg =>
        obtain rfl : i = 2 := by omega
        as_aux_lemma =>
        obtain ⟨Dm, hown, hDm⟩ := HH2.out.bad
        clear hi hi2
        obtain ⟨r, hr⟩ : ∃ r, r = wr.heap.size := ⟨_, rfl⟩
        go_wp2_with (first
          | (at_range; refine wpList_range_own _ rfl _ 91 rfl 3 4 lawH und_mH (plainElem Tryd.prog 4) mb c Dm rfl hown ?_; intro w0 hrg0 hg0 hs0; go_frame)
          | go_in)
        obtain ⟨L0, hrv⟩ := HH2.out.ranged hDm hrg0 hg0
        generalize (fun k => E k ∨ (wr.heap.size ≤ k ∧ k < w0.heap.size)) = E0 at L0
        have B0 := HB2.out.trans ((below_none hg0).mono HB2.out.size)
        have HRR : Hid (w.heap.size ≤ r) := by show _ ≤ _; rw [hr]; exact HB2.out.size
        rw [← hr] at L0 hrv ⊢
        have HRV := Lib.hid hrv
        have HL0 := Lib.hid L0
        have HB0 := Lib.hid B0
        have HDm := Lib.hid hDm
        clear hrg0 hg0 hs0 L0 hrv B0 HH2 HB2 HQ2 hown hDm hr
        go_loopw [32] (fun _ wx => ∃ (left : Lit → Bool) (n : Nat) (D : Dv), HrL w.heap.size E0 wx b2 B mb r w5.heap.size c (.slice pa N pc) t Dm left n sv2 D ∧ Below w.heap.size w wx) (fun _ wx => wx.rangeLeft mb r)
        case atStart => exact ⟨_, _, _, HL0.out, HB0.out⟩
        case round =>
          obtain ⟨left, n3, D3, L3, B3⟩ := hrel
          clear HL0 HB0
          have HL3 := Lib.hid L3
          have HB3 := Lib.hid B3
          have hrg3 : World.ranges _ Tryd.prog 3 (plainElem Tryd.prog 4) mb r c Dm left n3 := L3.rg
          clear L3 B3
          go_wp2_with (first
            | (at_next; refine wpList_next_ranges _ rfl _ rfl 3 lawH (plainElem Tryd.prog 4) (Value.int .i64) (fun v : Value => v) (fun key kl hkey => intK_any hkey) (fun v y hv => ⟨v, rfl⟩) mb r c Dm left n3 rfl hrg3 ?_ ?_)
            | go_in)
          · intro _ hl0
            have HPC := HL3.out.hm.all (fun k => hl0 _)
            have HHO := Lib.hid (holds_snap HL3.out.st HG.out HPC (fun x hx => HT.out x (HB3.out.trans (hx.mono HB3.out.size))))
            clear hl0 HPC hrg3
            go_wp2_with fail
            refine HHO.out.mono ?_
            rintro e w5' ⟨rfl, hb5⟩
            have HS5 := Lib.hid (HL3.out.st.below hb5)
            have HB5 := Lib.hid (HB3.out.trans (hb5.mono HB3.out.size))
            have HMN := Lib.hid (st_mend_no ((N : Nat) : Int) ⟨#[]⟩ HS5.out (by have := HNN.out; have := HNE.out; omega) (by rw [ofL_sums]; have := HNE.out; omega))
            clear hb5 HHO
            go_wp2_with fail
            refine HMN.out.mono ?_
            rintro e w6' ⟨rfl, rfl⟩
            go_wp2_with fail
            go_ret
            exact ⟨rfl, HB5.out⟩
          · intro x cN kl y yp w4 n4 hkey hlx hv hat hrg4 hlt4 hg4 hs4 hen
            obtain ⟨k, hkn, rfl, rfl⟩ := keyH_inv hkey HDm.out (HL3.out.inn _ hlx)
            obtain ⟨S4, R4⟩ := HL3.out.step hg4 HRV.out
            have B4 : Below w.heap.size w w4 := below_turned HB3.out hg4 HB3.out.size HRR.out
            obtain ⟨g, cap, hpv, hcell⟩ : ∃ g cap, Value.slice pa N pc = .slice (some ⟨g, 0, none⟩) (cutS t).length cap ∧ w4.cell? ⟨g, k, none⟩ = some (.string (cutAt t k)) := by
              obtain ⟨g, cap, hv, _, h2⟩ := strs_at R4 k (by rw [cutS_length]; exact hkn)
              rw [cutS_at t hkn] at h2
              exact ⟨g, cap, hv, h2⟩
            simp only [Value.slice.injEq] at hpv
            obtain ⟨rfl, -, rfl⟩ := hpv
            have hkN : (k : Int) < (N : Int) := by have := HNE.out; omega
            have hk0 : (0 : Int) ≤ (k : Int) := by omega
            have hcs := cut_size t hkn
            have hcat : ¬ 9223372036854775807 < (cutAt t k).size + 1 := by omega
            have HM1 := Lib.hid (hm_mend_bad k (cutAt t k ++ ⟨#[120]⟩) (cat_size _ _) S4 HG.out hkn B4.size (fun x hx => HT.out x (B4.trans hx)))
            have HR4 := Lib.hid R4
            have HB4 := Lib.hid B4
            have HKN := Lib.hid hkn
            have HLX := Lib.hid hlx
            have HG4 : Hid (RgI w4 mb r c Dm (fun z => left z && !z.sameKey (.int .i64 (k : Int))) n4) := hrg4
            have HLT4 := Lib.hid hlt4
            clear hkey hv hat hg4 hs4 hrg4 hrg3 S4 R4 B4 hkn hlx hlt4 hcs
            generalize hct : cutAt t k = ct at hcell hcat HM1
            have HCT := Lib.hid hct
            clear hct
            go_wp2_with fail
            refine HM1.out.mono ?_
            rintro e w6' ⟨rfl, S6, b6, k6⟩
            have R6 := row_kept HR4.out k6 HL3.out.er
            have hcell6 : w6'.cell? ⟨g, k, none⟩ = some (.string ct) := by
              obtain ⟨g2, cap2, hv, _, h2⟩ := strs_at R6 k (by rw [cutS_length]; exact HKN.out)
              simp only [Value.slice.injEq, Option.some.injEq, Addr.mk.injEq] at hv
              obtain ⟨⟨rfl, _⟩, _⟩ := hv
              rw [cutS_at t HKN.out, HCT.out] at h2
              exact h2
            have HM2 := Lib.hid (hm_mend k S6 HL3.out.hm HG.out HKN.out HLX.out (HB4.out.trans b6).size (fun x hx => HT.out x ((HB4.out.trans b6).trans hx)))
            rw [HCT.out] at HM2
            have HB6 := Lib.hid (HB4.out.trans b6)
            have HK6 := Lib.hid k6
            clear S6 b6 k6 R6 hcell HM1
            go_wp2_with fail
            refine HM2.out.mono ?_
            rintro e w7' ⟨rfl, D7, S7, m7, b7, k7⟩
            have L7 := HL3.out.next HKN.out HG4.out HR4.out S7 m7 (HK6.out.trans k7)
            have HL7 := Lib.hid L7
            have HB7 := Lib.hid (HB6.out.trans b7)
            clear S7 m7 b7 k7 L7 HM2 hcell6
            go_wp2_with fail
            go_roundw
            case rel =>
              (repeat apply Exists.intro)
              exact ⟨⟨_, n4, D7, HL7.out, HB7.out⟩, rfl⟩
            case measure =>
              have h1 : World.rangeLeft w7' mb r = n4 := (show World.ranges _ _ _ _ _ _ _ _ _ _ from HL7.out.rg).left_eq
              have h2 : World.rangeLeft wr mb r = n3 := (show World.ranges _ _ _ _ _ _ _ _ _ _ from HL3.out.rg).left_eq
              rw [h1, h2]; exact HLT4.out
      have hi3 : decide ((i : Int) < 2) = true := decide_eq_true (by omega)
      have HI := Lib.hid hi2
      have HHU := Lib.hid (hm_hurt HH2.out.st HH2.out.hm HG.out (HT.out _ HB2.out))
      clear hi2 hi
      go_wp2_with fail
      refine HHU.out.mono ?_
      rintro e w9 ⟨v, hs, rfl, hln, hmem, hrow, hb9⟩
      obtain ⟨ha, hc, rfl⟩ := slice_of hrow
      have HH9 := Lib.hid (HH2.out.below hb9)
      have HB9 := Lib.hid (HB2.out.trans (hb9.mono HB2.out.size))
      have hlb := HH9.out.bad.len 3
      rw [← hln] at hlb
      have HRW := Lib.hid hrow
      have HMM := Lib.hid hmem
      have HLN := Lib.hid hln
      clear hrow hmem hb9 HHU HH2 HB2 hln
      go_wp2_with fail
      go_loopw [111] (fun iw wx => ∃ j : Nat, j ≤ hs.length ∧ iw = .int .i64 (j : Int) ∧ HrW w.heap.size E wx b2 B mb w5.heap.size (.slice pa N pc) t c S sv2 D2 ∧ Below w9.heap.size w9 wx) (fun iw _ => hs.length - (intOf iw).toNat)
      case atStart => exact ⟨0, by omega, rfl, HH9.out, Below.refl _ _⟩
      case round =>
        obtain ⟨j, hj, rfl, Hj, Bj⟩ := hrel
        have HHJ := Lib.hid Hj
        have HBJ := Lib.hid Bj
        clear Hj Bj hlb
        by_cases hlt : j < hs.length
        case pos =>
          have hlt' : (j : Int) < (hs.length : Int) := by omega
          have hj0 : (0 : Int) ≤ (j : Int) := by omega
          have hln := HLN.out
          have hcl := cnt_le S (cutN t.size)
          have hnn := HNN.out
          have HWJ : Hid (wrap64 ((j : Int) + 1) = (j : Int) + 1) := IntWalk.wrap64_in _ (by omega)
          obtain ⟨g, cap, k, hv, hcell, hkn, hSk⟩ := hurt_at (World.ownsRow_below HRW.out HBJ.out) HMM.out hlt
          simp only [Value.slice.injEq] at hv
          obtain ⟨rfl, -, rfl⟩ := hv
          have HCK := Lib.hid (hm_chunk k HHJ.out.st HHJ.out.hm HG.out hkn (HT.out _ (HB9.out.trans (HBJ.out.mono HB9.out.size))))
          rw [hSk] at HCK
          have HKN := Lib.hid hkn
          have HSK := Lib.hid hSk
          have HJ := Lib.hid hlt
          clear hj hlt hln hcl hnn hkn hSk
          go_wp2_with fail
          refine HCK.out.mono ?_
          rintro e w10 ⟨rfl, hb10⟩
          have HH10 := Lib.hid (HHJ.out.below hb10)
          have HB10 := Lib.hid (HBJ.out.trans (hb10.mono HBJ.out.size))
          have hlook := HH10.out.bad.look HKN.out (by have := HNN.out; omega)
          rw [HSK.out] at hlook
          clear hb10 HCK hcell
          go_wp2_with fail
          go_roundw
          case rel => exact ⟨j + 1, HJ.out, by rw [HWJ.out]; rfl, HH10.out, HB10.out⟩
          case measure => rw [HWJ.out]; simp [intOf]; have := HJ.out; omega
        obtain rfl : j = hs.length := by omega
        have hge : ¬ ((hs.length : Int) < (hs.length : Int)) := by omega
        have HBK := Lib.hid (HB9.out.trans (HBJ.out.mono HB9.out.size))
        clear hlt hj HH9 HRW HMM
        go_wp2_with fail
        as_aux_lemma =>
        go_loopw [132] (fun iw wx => ∃ j : Nat, j ≤ N ∧ iw = .int .i64 (j : Int) ∧ HrW w.heap.size E wx b2 B mb w5.heap.size (.slice pa N pc) t c S sv2 D2 ∧ Below w.heap.size w wx) (fun iw _ => N - (intOf iw).toNat)
        case atStart => exact ⟨0, by omega, rfl, HHJ.out, HBK.out⟩
        case round =>
          obtain ⟨j, hj, rfl, H3, B3⟩ := hrel
          clear HHJ HBJ HBK HB9 HLN
          have HH3 := Lib.hid H3
          have HB3 := Lib.hid B3
          clear H3 B3
          by_cases hlt : j < N
          case pos =>
            have hlt' : (j : Int) < (N : Int) := by omega
            have hj0 : (0 : Int) ≤ (j : Int) := by omega
            have hjc : j < cutN t.size := by have := HNE.out; omega
            have HWJ : Hid (wrap64 ((j : Int) + 1) = (j : Int) + 1) := IntWalk.wrap64_in _ (by have := HNN.out; omega)
            obtain ⟨g, cap, hv, hcell⟩ := HH3.out.piece hjc
            simp only [Value.slice.injEq] at hv
            obtain ⟨rfl, -, rfl⟩ := hv
            have HCK := Lib.hid (hm_chunk j HH3.out.st HH3.out.hm HG.out hjc (HT.out _ HB3.out))
            have HJC := Lib.hid hjc
            have HJ := Lib.hid hlt
            clear hj hlt hjc
            generalize cutAt t j = ct at hcell HCK
            by_cases hSj : S j = true
            · rw [hSj] at HCK
              have HSJ := Lib.hid hSj
              clear hSj
              go_wp2_with fail
              refine HCK.out.mono ?_
              rintro e w10 ⟨rfl, hb10⟩
              have HH10 := Lib.hid (HH3.out.below hb10)
              have HB10 := Lib.hid (HB3.out.trans (hb10.mono HB3.out.size))
              have hlook := HH10.out.bad.look HJC.out (by have := HNN.out; omega)
              rw [HSJ.out] at hlook
              clear hb10 HCK hcell
              go_wp2_with fail
              go_roundw
              case rel => exact ⟨j + 1, HJ.out, by rw [HWJ.out]; rfl, HH10.out, HB10.out⟩
              case measure => rw [HWJ.out]; simp [intOf]; have := HJ.out; omega
            · have hSj' : S j = false := by simpa using hSj
              rw [hSj'] at HCK
              have HSJ := Lib.hid hSj'
              clear hSj hSj'
              go_wp2_with fail
              refine HCK.out.mono ?_
              rintro e w10 ⟨rfl, hb10⟩
              have HH10 := Lib.hid (HH3.out.below hb10)
              have HB10 := Lib.hid (HB3.out.trans (hb10.mono HB3.out.size))
              have hlook := HH10.out.bad.look HJC.out (by have := HNN.out; omega)
              rw [HSJ.out] at hlook
              clear hb10 HCK hcell
              go_wp2_with fail
              go_roundw
              case rel => exact ⟨j + 1, HJ.out, by rw [HWJ.out]; rfl, HH10.out, HB10.out⟩
              case measure => rw [HWJ.out]; simp [intOf]; have := HJ.out; omega
          obtain rfl : j = N := by omega
          have hge : ¬ ((j : Int) < (j : Int)) := by omega
          clear hlt hj
          have HDT := Lib.hid (hm_data HH3.out.st HH3.out.hm HG.out (fun x hx => HT.out x (HB3.out.trans (hx.mono HB3.out.size))))
          obtain ⟨C, hC⟩ : ∃ C, C = cnt S (cutN t.size) := ⟨_, rfl⟩
          have HCC := Lib.hid hC
          rw [← hC] at HDT
          clear hC
          have hcases : (decide ((C : Int) > 0) = true ∧ decide ((0 : Int) < (C : Int)) = true ∧ decide (0 < C) = true ∧ (if 0 < C then (6 : Int) else 0) = 6) ∨ (decide ((C : Int) > 0) = false ∧ decide ((0 : Int) < (C : Int)) = false ∧ decide (0 < C) = false ∧ (if 0 < C then (6 : Int) else 0) = 0) := by
            by_cases h0 : 0 < C
            · exact .inl ⟨decide_eq_true (by omega), decide_eq_true (by omega), decide_eq_true h0, if_pos h0⟩
            · exact .inr ⟨decide_eq_false (by omega), decide_eq_false (by omega), decide_eq_false h0, if_neg h0⟩
          generalize (if 0 < C then (6 : Int) else 0) = ec at HDT hcases
          go_wp2_with fail
          as_aux_lemma =>
          rcases hcases with ⟨hx, hx2, hx3, rfl⟩ | ⟨hx, hx2, hx3, rfl⟩
          all_goals
            refine HDT.out.mono ?_
            rintro e w10 ⟨s10, rfl, hb10⟩
            have HH10 := Lib.hid (HH3.out.below hb10)
            have HB10 := Lib.hid (HB3.out.trans (hb10.mono HB3.out.size))
            have hlb := HH10.out.bad.len 3
            rw [← HCC.out] at hlb
            obtain ⟨q2, hq2⟩ := HQ2.out
            have HLQ := Lib.hid hq2
            have HOP := Lib.hid (hr_open HH10.out hq2 HG.out HB10.out.size (HT.out _ HB10.out))
            clear hb10 hq2 HDT
            go_wp2_with fail
            refine HOP.out.mono ?_
            rintro e w11 ⟨b11, sv11, E11, rfl, hE11, H11, hb11⟩
            have HH11 := Lib.hid H11
            have HB11 := Lib.hid (HB10.out.trans (hb11.mono HB10.out.size))
            have HSC := Lib.hid (hr_scrub H11 HLQ.out HG.out HB11.out.size (fun x hx => HT.out x (HB11.out.trans hx)))
            clear H11 hb11 hE11 HOP hlb HH10 HB10
            go_wp2_with fail
            refine HSC.out.mono ?_
            rintro e w12 ⟨rfl, D12, H12, l0, l1, hb12⟩
            have HB12 := Lib.hid (HB11.out.trans hb12)
            have HL := Lib.hid (hr_lose (1 - q0) H12 HG.out (by omega) l0 l1 HB12.out.size)
            clear H12 l0 l1 hb12 HSC HH11 HB11 hx hx2 hx3
            go_wp2_with fail
            refine HL.out.mono ?_
            rintro e w13 ⟨rfl, D13, H13, Q13, hb13⟩
            have HH13 := Lib.hid H13
            have HQ13 := Lib.hid Q13
            have HB13 := Lib.hid (HB12.out.trans hb13)
            clear H13 Q13 hb13 HL HB12
            have HWI : Hid (wrap64 ((i : Int) + 1) = (i : Int) + 1) := IntWalk.wrap64_in _ (by have := HI.out; omega)
            go_wp2_with fail
            go_roundw
            case rel => exact ⟨i + 1, E11, b11, sv11, D13, HI.out, rfl, by rw [HWI.out]; rfl, HH13.out, HQ13.out, HB13.out⟩
            case measure => rw [HWI.out]; simp [intOf]; have := HI.out; omega

theorem own : ownKnob Tryd.prog.godebug = none := by kernel_rfl
theorem laidOut : laidOutB Tryd.prog = true := by kernel_rfl
theorem gHi : Tryd.prog.globalNamed "orchard/sum.highTable" = some 0 := by kernel_rfl
theorem gLo : Tryd.prog.globalNamed "orchard/sum.lowTable" = some 1 := by kernel_rfl
theorem gHiType : (Tryd.prog.globals[0]?).map (·.type) = some 187 := by kernel_rfl
theorem gLoType : (Tryd.prog.globals[1]?).map (·.type) = some 187 := by kernel_rfl
theorem cellsTab : Tryd.prog.cellsOf 187 = 16 := by kernel_rfl
theorem cellsSum : Tryd.prog.cellsOf 70 = 1 := by kernel_rfl

theorem table_lo {W : World} (h : laidMetH Tryd.prog Rows.chunkHarmsRow.laid W) : Lib.TabIs Tryd.prog W "orchard/sum.lowTable" .u32 LO :=
  Lib.tabIs_of_head (rest := [("orchard/sum.highTable", Rows.laid_orchard_sum_highTable)]) gLo gLoType Tryd.underlying187 Tryd.underlying70 cellsSum cellsTab h
theorem table_hi {W : World} (h : laidMetH Tryd.prog Rows.chunkHarmsRow.laid W) : Lib.TabIs Tryd.prog W "orchard/sum.highTable" .u32 HI :=
  Lib.tabIs_of_head (rest := []) gHi gHiType Tryd.underlying187 Tryd.underlying70 cellsSum cellsTab (laidMet.tail (show laidMet Tryd.prog [("orchard/sum.lowTable", Rows.laid_orchard_sum_lowTable), ("orchard/sum.highTable", Rows.laid_orchard_sum_highTable)] W from h))
theorem tabs_of {W : World} (h : laidMetH Tryd.prog Rows.chunkHarmsRow.laid W) : Tabs W := by
  have c0 := fun (j : Nat) (hj : j < 16) => (table_hi h).cell gHi j hj
  have c1 := fun (j : Nat) (hj : j < 16) => (table_lo h).cell gLo j hj
  refine ⟨⟨World.block_lt_of_cell? W _ (c0 0 (by decide)), World.block_lt_of_cell? W _ (c1 0 (by decide))⟩, fun j hj => ?_, fun j hj => ?_⟩
  · rw [c0 j hj, hi_cast j]
  · rw [c1 j hj, lo_cast j]

theorem contract (H : Type) (enc : TypeId × Value → H) (W : World) (base : Nat) (args : Array Value) (ds gs : List (DataW H)) (before : List MemPlace)
    (hval : ∀ (j : Nat) t v, Tryd.f7.params[j]? = some t → args[j]? = some v → Value.okWide Tryd.prog W .any base t v)
    (hW : DataW.Whole enc Tryd.prog Tryd.f7.params.toList Rows.chunkHarmsSpec.vars false W args.toList ds gs before) (hL : laidMetH Tryd.prog Rows.chunkHarmsRow.laid W) :
    Calls Tryd.prog 7 args W fun e W' => ∃ v, e = .returned v ∧ Rows.chunkHarmsSpec.post enc Tryd.prog Tryd.f7 false true false false W args v W' := by
  have hT := tabs_of hL
  have hW' := hW
  obtain ⟨p, q, hA0, hV, rfl, hfz, hnd⟩ := hW
  have hA : DataW.TrodAll enc Tryd.prog W 0 (fun _ => true) true Tryd.f7.params.toList args.toList ds p := hA0
  rw [Tryd.params7] at hA hval
  obtain ⟨v0, vs0, d0, ds0, p0, q0, hargs, rfl, rfl, h0, r0⟩ := trodAll_cons hA
  obtain ⟨v1, vs1, d1, ds1, p1, q1, rfl, rfl, rfl, h1, r1⟩ := trodAll_cons r0
  obtain ⟨v2, vs2, d2, ds2, p2, q2, rfl, rfl, rfl, h2, r2⟩ := trodAll_cons r1
  obtain ⟨v3, vs3, d3, ds3, p3, q3, rfl, rfl, rfl, h3, r3⟩ := trodAll_cons r2
  obtain ⟨v4, vs4, d4, ds4, p4, q4, rfl, rfl, rfl, h4, r4⟩ := trodAll_cons r3
  obtain ⟨rfl, rfl, rfl⟩ := trodAll_nil r4
  obtain rfl : args = #[v0, v1, v2, v3, v4] := by cases args; simp_all
  obtain ⟨rfl, rfl⟩ := trodVars_none hV
  obtain ⟨a0, rfl, rfl, rfl, w0⟩ := open_int Tryd.underlying3 (hval 0 3 v0 rfl rfl) h0
  obtain ⟨a1, rfl, rfl, rfl, w1⟩ := open_int Tryd.underlying3 (hval 1 3 v1 rfl rfl) h1
  have k2 := h2
  have lt2 : ∀ x ∈ p2, x.block < W.heap.size := by obtain ⟨m, hm⟩ := k2; exact DataW.trod_lt m _ _ _ hm
  obtain ⟨z2, w2⟩ := ints_of (hval 2 90 v2 rfl rfl) h2
  obtain ⟨a3, rfl, rfl, rfl, w3⟩ := open_int Tryd.underlying5 (hval 3 5 v3 rfl rfl) h3
  obtain ⟨a4, rfl, rfl, rfl, w4⟩ := open_int Tryd.underlying3 (hval 4 3 v4 rfl rfl) h4
  clear hA0
  refine (walk a0 a1 v2 z2 a3 a4 W w0 w1 w2 w3 w4 hT).mono fun e W' ⟨he, bel⟩ => ?_
  subst he
  exact ⟨_, rfl, _, _, _, [], _, [], hW', trodAll_mk1 (shut_bool Tryd.underlying4 _), (trodAll_cons_mk (shut_int Tryd.underlying3 w0) (trodAll_cons_mk (shut_int Tryd.underlying3 w1) (trodAll_cons_mk (Below.trod laidOut (by kernel_rfl) (of_decide_eq_true (by kernel_rfl)) k2 bel lt2) (trodAll_cons_mk (shut_int Tryd.underlying5 w3) (trodAll_cons_mk (shut_int Tryd.underlying3 w4) trodAll_mk0))))), rfl, bel.frame _, fun h => by cases h⟩

def setTab (l : List Int) : Obj → Obj
  | .cells _ t frozen => .cells (l.map (Value.int .u32)).toArray t frozen
  | o => o
noncomputable def laidWorld (os : Os) : World :=
  { World.holding Tryd.prog os ⟨#[], #[], []⟩ with heap := ((World.holding Tryd.prog os ⟨#[], #[], []⟩).heap.modify 1 (setTab LO)).modify 0 (setTab HI) }
theorem laid_met (os : Os) : laidMet Tryd.prog Rows.chunkHarmsRow.laid ((laidWorld os).forCall (fun _ _ => 0) ⟨#[], #[.int .i64 0, .int .i64 0, .slice none 0 0, .int .u8 0, .int .i64 0], []⟩).memory :=
  laidMet_of_run' 8 (by kernel_rfl) (by kernel_rfl)
theorem reads (os : Os) {H : Type} (enc : TypeId × Value → H) : ∃ places, DataW.whole enc Tryd.prog ((laidWorld os).forCall (fun _ _ => 0) ⟨#[], #[.int .i64 0, .int .i64 0, .slice none 0 0, .int .u8 0, .int .i64 0], []⟩).memory Tryd.f7.params.toList Rows.chunkHarmsSpec.vars false #[Value.int .i64 0, Value.int .i64 0, Value.slice none 0 0, Value.int .u8 0, Value.int .i64 0].toList 8 = some ([.lit (.int .i64 0), .lit (.int .i64 0), .nil, .lit (.int .u8 0), .lit (.int .i64 0)], [], places) :=
  ⟨[], by kernel_rfl⟩

set_option maxRecDepth 100000 in
theorem lifted (os : Os) (started : os.Started) (H : Type) (enc : TypeId × Value → H) (F : Stop.Interp) :
    ReturnsInHanded {} Tryd.checked os 7 .any ((OpenSpec.ofChange Rows.chunkHarmsSpec).preRow enc Tryd.prog Tryd.f7 Rows.chunkHarmsRow.domain false Rows.chunkHarmsRow.laid) (((OpenSpec.ofChange Rows.chunkHarmsSpec).at F).post enc Tryd.prog Tryd.f7 false true false false) := by
  obtain ⟨places, hx⟩ := reads os enc
  refine returnsInHanded_of_row (C := Tryd.checked) (s := OpenSpec.ofChange Rows.chunkHarmsSpec) own started (by kernel_rfl) Tryd.func7
    (witness_row_at (enc := enc) (C := Tryd.checked) false (laidWorld os) #[.int .i64 0, .int .i64 0, .slice none 0 0, .int .u8 0, .int .i64 0] rfl (by kernel_rfl) (by kernel_rfl) (by kernel_rfl)
      (OpenSpec.preRow_of_cond 8 hx (by kernel_rfl) (fun k hk => by cases hk) (by kernel_rfl) (laid_met os))) ?_
  intro W base args ds gs before hval hW _ _ _ hL _ _
  exact contract H enc W base args ds gs before hval hW hL

theorem said : Rows.ChunkHarmsSaid :=
  OpenClaim.holds_of_cond 7 Tryd.f7 rfl rfl rfl rfl rfl rfl rfl ⟨rfl, rfl, rfl, rfl, rfl⟩ rfl rfl rfl rfl rfl (by kernel_rfl) Tryd.func7 (by kernel_rfl)
    (of_decide_eq_true (by kernel_rfl)) (by unfold Func.isWrapper; first | (rw [if_pos (by decide +kernel)]; kernel_rfl) | (rw [if_neg (by decide +kernel)]; exact ⟨rfl, rfl⟩))
    (fun os started H enc _ F => by rw [OpenClaim.pre_eq_preRow]; exact lifted os started H enc F)

theorem plain (f : FuncId) (fn : Func) (hf : Tryd.pinned.checked.prog.funcNamed "orchard/orchardlaw07.ChunkHarms" = some f) (hfn : Tryd.pinned.checked.prog.funcs[f]? = some fn) :
    false = Tryd.pinned.checked.prog.looks [] ∧ ∀ (j : Nat) t, fn.params[j]? = some t → Tryd.pinned.checked.prog.wantsStandIn t = false := by
  obtain rfl : f = 7 := Option.some.inj ((show Tryd.prog.funcNamed "orchard/orchardlaw07.ChunkHarms" = some 7 by kernel_rfl).symm.trans hf) |>.symm
  obtain rfl : fn = Tryd.f7 := (Option.some.inj (Tryd.func7.symm.trans hfn)).symm
  refine ⟨by kernel_rfl, fun j t ht => ?_⟩
  rw [Tryd.params7] at ht
  have hm := Array.mem_of_getElem? ht
  simp at hm
  rcases hm with rfl | rfl | rfl | rfl
  · exact (show Tryd.prog.wantsStandIn 3 = false by kernel_rfl)
  · exact (show Tryd.prog.wantsStandIn 90 = false by kernel_rfl)
  · exact (show Tryd.prog.wantsStandIn 5 = false by kernel_rfl)
  · exact (show Tryd.prog.wantsStandIn 3 = false by kernel_rfl)

theorem card : Rows.ChunkHarmsCardSaid :=
  Claim7.holds_tied_plain_at .later [] _ _ _ _ said (fun _ h => by cases h) (by kernel_rfl) (fun _ h => by cases h) chunkHarms_row_tie rfl ⟨rfl, rfl⟩ (by kernel_rfl) rfl plain (by kernel_rfl)
end Go.Proofs.YtiknfifiglooeaaDoor.chunkHarms
