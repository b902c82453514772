/- TreeBelows: how often nodes came and went next below a node: it counts them, and no others; no condition on the input (the listed tables lie as the program's text lays them). -/
import Derived.Test.YtoelceicldddmaaDoorTreeDoA
import Derived.Test.YtoelceicldddmaaDoorTreeFew
import Derived.Test.YtoelceicldddmaaDoorTreeHead
import Derived.Test.YtoelceicldddmaaDoorPathArgs
import Derived.Test.YtoelceicldddmaaDoorCards
import Derived.Test.YtoelceicldddmaaDoorTie
import Derived.ProofKit
import Derived.OpenShut
import Derived.ShutString
import Derived.ChangeOld
import Derived.Deep.DeepHandedRow
import Derived.Lib.LaidTab
import Derived.Stop.LaidErr
import Derived.Lay
namespace Go.Proofs.YtoelceicldddmaaDoor.treeBelows
open Go.ChangeShapes Go.WideShapes Go.ChangeAt Go.RowKit
open Go.ChangeMaps (open_string shut_string)
set_option linter.unusedVariables false
set_option maxRecDepth 100000
set_option maxHeartbeats 8000000 in
theorem walk (v0 : Value) (qs : List Aq) (v1 : Value) (ss : List Int) (w : World) (w0 : Acts9 w v0 qs) (w1 : IntsR w v1 ss) :
    Calls Tryd.prog 7 #[v0, v1] w fun e w' => e = .returned (.bool true) ∧ Below w.heap.size w w' := by
  have HH := Lib.hid (head9_any w)
  have w0' := w0
  obtain ⟨xa, xc, hva, hxm, _⟩ := w0'
  subst hva
  have HA := Lib.hid w0
  have HF := Lib.hid (fun (W : World) (hb : Below w.heap.size w W) => few9_any xa xc qs W (w0.below hb))
  have i1 := w1.1
  obtain ⟨ya, yc, hvb, hyc, hym, _⟩ := i1
  subst hvb
  have HMA := Lib.hid (fun (W : World) (hb : Below w.heap.size w W) (h4 : ss.length ≤ 1000) => made_any (.slice ya ss.length yc) ss W (w1.1.below hb) h4 w1.2)
  have hyl : ss.length ≤ 9223372036854775807 := by unfold maxLen at hym; omega
  clear w0 w1 hyc hym
  by_cases hfw : few9 qs = false
  · rw [hfw] at HF
    clear hxm
    go_enter Tryd.func7, Tryd.ntmps7
    go_wp2_with fail
    refine HH.out.mono ?_
    rintro e w1 ⟨rfl, b1⟩
    go_wp2_with fail
    refine (HF.out _ b1).mono ?_
    rintro e w2 ⟨rfl, b2⟩
    go_wp2_with fail
    go_ret
    exact ⟨rfl, b1.trans (b2.mono b1.size)⟩
  have hfew : few9 qs = true := by cases h : few9 qs; exact absurd h hfw; rfl
  rw [hfew] at HF
  by_cases hs4 : 4 < ss.length
  · have d1 : decide ((4 : Int) < (ss.length : Int)) = true := by simp; omega
    clear hxm
    go_enter Tryd.func7, Tryd.ntmps7
    go_wp2_with fail
    refine HH.out.mono ?_
    rintro e w1 ⟨rfl, b1⟩
    go_wp2_with fail
    refine (HF.out _ b1).mono ?_
    rintro e w2 ⟨rfl, b2⟩
    go_wp2_with fail
    go_ret
    exact ⟨rfl, b1.trans (b2.mono b1.size)⟩
  have d1 : decide ((4 : Int) < (ss.length : Int)) = false := by simp; omega
  have HFW := Lib.hid hfew
  have hq40 : qs.length ≤ 40 := by unfold few9 at hfew; rw [Bool.and_eq_true] at hfew; simpa using hfew.2
  have hs4' : ss.length ≤ 1000 := by omega
  obtain ⟨p, hp⟩ : ∃ p, p = madeL (wsOf ss) := ⟨_, rfl⟩
  have hpl : p.length ≤ 1000 := by rw [hp]; have := made_len ss; omega
  rw [← hp] at HMA
  clear hfw hfew hxm hp hs4
  go_enter Tryd.func7, Tryd.ntmps7
  go_wp2_with fail
  refine HH.out.mono ?_
  rintro e w1 ⟨rfl, b1⟩
  go_wp2_with fail
  refine (HF.out _ b1).mono ?_
  rintro e w2 ⟨rfl, b2⟩
  replace b2 := b1.trans (b2.mono b1.size)
  have HN := Lib.hid (new_any w2)
  go_wp2_with fail
  refine HN.out.mono ?_
  rintro e w3 ⟨tb, mb, rfl, H3, b3, ht, hmb⟩
  have hmw : w.heap.size ≤ mb := Nat.le_trans b2.size hmb
  have htw : w.heap.size ≤ tb := Nat.le_trans b2.size ht
  replace b3 := b2.trans (b3.mono b2.size)
  have HMN := Lib.hid (mnew_any w3)
  clear HN HH HF b1 b2 ht hmb
  go_wp2_with fail
  refine HMN.out.mono ?_
  rintro e w4 ⟨rfl, M4, b4⟩
  have H4 := H3.below b4
  have htl := H3.lt
  have hml := H3.map.lt
  have TW4 : Two w.heap.size 0 w4 tb mb 1 (w3.heap.size + 1) w3.heap.size 1 rootT [([47], Nd.zero)] := ⟨H4, ⟨M4.box, M4.row.mono (Nat.zero_le _)⟩, Rep.root, SmallK.root, by omega, htw, hmw, by have := b3.size; omega, b3.size, Nat.le_trans b3.size b4.size⟩
  replace b4 := b3.trans (b4.mono b3.size)
  obtain ⟨mp, hmp⟩ : ∃ mp, mp = w3.heap.size + 1 := ⟨_, rfl⟩
  obtain ⟨g0, hg0⟩ : ∃ g0, g0 = w3.heap.size := ⟨_, rfl⟩
  rw [← hmp, ← hg0] at TW4
  rw [← hmp]
  clear hmp hg0 M4 H4 H3 b3 HMN htl hml
  go_wp2_with fail
  refine (HMA.out _ b4 hs4').mono ?_
  rintro e w5 ⟨rfl, b5⟩
  have TW5 := TW4.below b5
  replace b5 := b4.trans (b5.mono b4.size)
  clear TW4 b4 HMA
  go_wp2_with fail
  go_loopw [8, 31] (fun cv iv wr => ∃ (j k cnt : Nat) (T : List UInt8 → Option Nd) (g cap : Nat) (L : List Me), j ≤ qs.length ∧ k ≤ 1 + 2 * j ∧ cv = .int .i64 cnt ∧ iv = .int .i64 j ∧ Hid (Two w.heap.size j wr tb mb k mp g cap T L) ∧ Hid (KeysOk T ∧ ParOk T ∧ CntOk T p cnt) ∧ L.length ≤ 1 + j ∧ cnt ≤ j ∧ Below w.heap.size w wr) (fun _ iv _ => qs.length - (intOf iv).toNat)
  case atStart => exact ⟨0, 1, 0, rootT, g0, 1, _, by omega, by omega, rfl, rfl, Lib.hid TW5, Lib.hid ⟨KeysOk.root, ParOk.root, CntOk.root p⟩, by simp, by omega, b5⟩
  case round =>
    obtain ⟨j, k, cnt, T, g, cap, L, hj, hk, rfl, rfl, HTW, HKP, hL, hcn, bk⟩ := hrel
    clear TW5 b5
    by_cases hlt : j < qs.length
    · have hlt2 : decide ((j : Int) < (qs.length : Int)) = true := by simp; omega
      obtain ⟨hok, hpv, ga, off, rfl, h0, h1, h2, h3, h4, h5, h6⟩ := act9_at HA.out bk hlt
      obtain ⟨hf1, hf2, hf3, _⟩ := few9_at HFW.out hlt
      have HPV := Lib.hid hpv
      have t2 : IntKind.i64.wrap ((j : Int) + 1) = (j : Int) + 1 := IntWalk.i64_in _ (by omega)
      have t3 : IntKind.i64.wrap ((cnt : Int) + 1) = (cnt : Int) + 1 := IntWalk.i64_in _ (by omega)
      have hj0 : (0 : Int) ≤ (j : Int) := by omega
      have hji : (j : Int) < (qs.length : Int) := by omega
      clear hok
      generalize qs.getD j aq0 = x at *
      obtain ⟨fa, fcap, hfv, _, hfm, _⟩ := hpv.1
      obtain ⟨⟨ak, av, ao, ap, ar, ad, asr⟩, pv⟩ := x
      simp only at *
      subst hfv
      clear hpv hfm
      have HK1 := Lib.hid (fun (W : World) (hW : Below wr.heap.size wr W) => mkids_any 0 mp g cap L p W ((HTW.out.below hW).mod) (by omega) (fun e he => HKP.out.1 e.1 e.2 ((HTW.out.rep.mem _ _).2 he)))
      have HF1 := Lib.hid (fun (W : World) (hW : Below wr.heap.size wr W) => mfind_any 0 mp g cap L p W ((HTW.out.below hW).mod) (by omega))
      have HDO := Lib.hid (fun (W : World) (hW : Below wr.heap.size wr W) => do_all w.heap.size j tb mb k T mp g cap L ⟨ak, av, ao, ap, ar, ad, asr⟩ (.slice fa ap.length fcap) ((j : Int) + 1) W (HTW.out.below hW) (by omega) (by omega) (by omega) hf2 ⟨HPV.out.1.below hW, HPV.out.2⟩ hf1 hf3 HKP.out.1 HKP.out.2.1)
      have bA := (Below.refl _ wr).alloc (Nat.le_refl _) (.cells #[.int .i64 ak, .int .i64 av, .int .i64 ao, .slice fa ap.length fcap, .string ar, .string ad, .bool asr] 51)
      have N6 := heap_alloc_new wr (.cells #[.int .i64 ak, .int .i64 av, .int .i64 ao, .slice fa ap.length fcap, .string ar, .string ad, .bool asr] 51)
      have hfd : (∃ nd, T p = some nd ∧ ∃ i : Nat, findI L p L.length = (i : Int)) ∨ (T p = none ∧ findI L p L.length = -1) := by
        cases hT : T p with
        | none => exact .inr ⟨rfl, HTW.out.rep.find_none hT⟩
        | some nd => obtain ⟨i, hi, _⟩ := HTW.out.rep.find_some hT; exact .inl ⟨nd, rfl, i, hi⟩
      obtain ⟨n1, hn1⟩ : ∃ n1, n1 = (kidsL L p).length := ⟨_, rfl⟩
      have HN1 := Lib.hid hn1
      go_upto_region 12 with fail
      obtain ⟨w6, hw6⟩ : ∃ w6, w6 = wr.alloc (.cells #[.int .i64 ak, .int .i64 av, .int .i64 ao, .slice fa ap.length fcap, .string ar, .string ad, .bool asr] 51) := ⟨_, rfl⟩
      rw [← hw6] at bA N6 ⊢
      have hlr : wr.heap.size < w6.heap.size := (Array.getElem?_eq_some_iff.1 N6).1
      clear hw6 h0 h1 h2 h3 h4 h5 h6 hn1
      go_wp2_with fail
      refine (HK1.out _ bA).mono ?_
      rintro e w7 ⟨u, rfl, hrow, b7⟩
      obtain ⟨ua, uc, hu⟩ := row_form hrow
      rw [← HN1.out] at hu
      subst hu
      have N7 := (b7.block wr.heap.size hlr).trans N6
      replace b7 := bA.trans (b7.mono bA.size)
      have hlr7 : wr.heap.size < w7.heap.size := (Array.getElem?_eq_some_iff.1 N7).1
      clear hrow N6 bA hlr
      go_wp2_with fail
      refine (HF1.out _ b7).mono ?_
      rintro e w8 ⟨rfl, b8⟩
      have N8 := (b8.block wr.heap.size hlr7).trans N7
      replace b8 := b7.trans (b8.mono b7.size)
      clear N7 b7 hlr7
      have c0 : w8.cell? ⟨wr.heap.size, 0, none⟩ = some (.int .i64 ak) := by simp [World.cell?, N8]
      have c1 : w8.cell? ⟨wr.heap.size, 1, none⟩ = some (.int .i64 av) := by simp [World.cell?, N8]
      have c2 : w8.cell? ⟨wr.heap.size, 2, none⟩ = some (.int .i64 ao) := by simp [World.cell?, N8]
      have c3 : w8.cell? ⟨wr.heap.size, 3, none⟩ = some (.slice fa ap.length fcap) := by simp [World.cell?, N8]
      have c4 : w8.cell? ⟨wr.heap.size, 4, none⟩ = some (.string ar) := by simp [World.cell?, N8]
      have c5 : w8.cell? ⟨wr.heap.size, 5, none⟩ = some (.string ad) := by simp [World.cell?, N8]
      have c6 : w8.cell? ⟨wr.heap.size, 6, none⟩ = some (.bool asr) := by simp [World.cell?, N8]
      have HDOc := Lib.hid (HDO.out _ b8)
      unfold acV at HDOc
      clear N8 HDO HK1 HF1
      rcases hfd with ⟨nd, hTp, i, hfi⟩ | ⟨hTp, hfi⟩
      · rw [hfi]
        have f1 : decide ((0 : Int) ≤ (i : Int)) = true := by simp
        have HTP := Lib.hid hTp
        clear hTp hfi
        go_wp2_with fail
        refine HDOc.out.mono ?_
        rintro e w9 ⟨rfl, b9, T', g', cap', L', TW9, HS9, hL9⟩
        have HT9 := Lib.hid TW9
        have HS := Lib.hid HS9
        have HK2 := Lib.hid (HS9.keys HKP.out.1)
        have HP2 := Lib.hid (HS9.par HKP.out.2.1)
        replace b9 := bk.trans ((b8.mono (by have := TW9.above; exact bk.size)).trans b9)
        have HF2 := Lib.hid (fun (W : World) (hW : Below w9.heap.size w9 W) => mfind_any 0 mp g' cap' L' p W ((TW9.below hW).mod) (by omega))
        have HK3 := Lib.hid (fun (W : World) (hW : Below w9.heap.size w9 W) => mkids_any 0 mp g' cap' L' p W ((TW9.below hW).mod) (by omega) (fun e he => HK2.out e.1 e.2 ((TW9.rep.mem _ _).2 he)))
        have HG3 := Lib.hid (fun (W : World) (hW : Below w9.heap.size w9 W) => get_any tb mb (k + 2) L'.length T' p W ((TW9.below hW).tree) (by omega))
        clear TW9 HS9 c0 c1 c2 c3 c4 c5 c6 b8
        cases hTp' : T' p with
        | none =>
          have hfi' := HT9.out.rep.find_none hTp'
          rw [hfi'] at HF2
          have HC2 : Hid (CntOk T' p 0) := Lib.hid (fun nd h => by rw [hTp'] at h; cases h)
          clear hTp' hfi' HK3 HG3
          go_wp2_with fail
          refine (HF2.out _ (Below.refl _ _)).mono ?_
          rintro e w10 ⟨rfl, b10⟩
          have T10 := HT9.out.below b10
          replace b10 := b9.trans (b10.mono b9.size)
          go_wp2_with fail
          go_roundw
          case rel => exact ⟨j + 1, k + 2, 0, T', g', cap', L', by omega, by omega, rfl, by go_num, Lib.hid T10, Lib.hid ⟨HK2.out, HP2.out, HC2.out⟩, by omega, by omega, b10⟩
          case measure => simp [intOf]; omega
        | some nd' =>
          obtain ⟨i', hfi', _⟩ := HT9.out.rep.find_some hTp'
          rw [hfi'] at HF2
          have hbel := HS.out.below HTW.out.rep HT9.out.rep HTP.out hTp'
          rw [HKP.out.2.2 nd HTP.out, ← HN1.out] at hbel
          have hG : getN T' p = (nd', 0) := by unfold getN; rw [HK2.out _ _ hTp', hTp']; rfl
          rw [hG] at HG3
          unfold ndV at HG3
          obtain ⟨n2, hn2⟩ : ∃ n2, n2 = (kidsL L' p).length := ⟨_, rfl⟩
          rw [← hn2] at hbel
          have HN2 := Lib.hid hn2
          have HC2 : Hid (CntOk T' p (cnt + if n2 ≠ n1 then 1 else 0)) := Lib.hid (fun nd h => by
            rw [hTp'] at h; injection h with h; rw [← h, hbel]
            split <;> simp)
          obtain ⟨nda, ndv, ndb, ndo, ndm, ndp, nds⟩ := nd'
          simp only at hbel HG3
          clear hTp' hfi' hG hn2
          go_wp2_with fail
          refine (HF2.out _ (Below.refl _ _)).mono ?_
          rintro e w10 ⟨rfl, b10⟩
          have f2 : decide ((i' : Int) < 0) = false := by simp
          go_wp2_with fail
          refine (HK3.out _ b10).mono ?_
          rintro e w11 ⟨u, rfl, hrow, b11⟩
          obtain ⟨va, vc, hu⟩ := row_form hrow
          rw [← HN2.out] at hu
          subst hu
          replace b11 := b10.trans (b11.mono b10.size)
          clear hrow b10
          by_cases hn : n2 = n1
          · have e1 : ((n2 : Int) != (n1 : Int)) = false := by simp [hn]
            have e3 : ((n2 : Int) == (n1 : Int)) = true := by simp [hn]
            rw [if_neg (by simp [hn])] at hbel
            have HC3 : Hid (CntOk T' p cnt) := Lib.hid (by have := HC2.out; rw [if_neg (by simp [hn])] at this; exact this)
            have hb2 : ndb = (cnt : Int) := by omega
            subst hb2
            clear HC2 hn hbel
            go_wp2_with fail
            refine (HG3.out _ b11).mono ?_
            rintro e w12 ⟨rfl, b12⟩
            have T12 := HT9.out.below (b11.trans (b12.mono b11.size))
            replace b12 := b9.trans ((b11.trans (b12.mono b11.size)).mono b9.size)
            have T13 := T12.below ((Below.refl _ w12).alloc (Nat.le_refl _) (.cells #[.string nda, .int .i64 ndv, .int .i64 (cnt : Int), .int .i64 ndo, .int .i64 ndm, .int .i64 ndp, .int .i64 nds] 30))
            have b13 := b12.alloc b12.size (.cells #[.string nda, .int .i64 ndv, .int .i64 (cnt : Int), .int .i64 ndo, .int .i64 ndm, .int .i64 ndp, .int .i64 nds] 30)
            have HT13 := Lib.hid T13
            clear T13 T12 b12
            go_wp2_with fail
            go_roundw
            case rel => exact ⟨j + 1, k + 2, cnt, T', g', cap', L', by omega, by omega, rfl, by go_num, HT13, Lib.hid ⟨HK2.out, HP2.out, HC3.out⟩, by omega, by omega, b13⟩
            case measure => simp [intOf]; omega
          · have hn' : ¬ (n2 : Int) = (n1 : Int) := by omega
            have e1 : ((n2 : Int) != (n1 : Int)) = true := by simpa using hn'
            have e3 : ((n2 : Int) == (n1 : Int)) = false := by simpa using hn'
            rw [if_pos hn] at hbel
            have HC3 : Hid (CntOk T' p (cnt + 1)) := Lib.hid (by have := HC2.out; rw [if_pos hn] at this; exact this)
            have hb2 : ndb = (cnt : Int) + 1 := by omega
            subst hb2
            clear HC2 hn hn' hbel
            go_wp2_with fail
            refine (HG3.out _ b11).mono ?_
            rintro e w12 ⟨rfl, b12⟩
            have T12 := HT9.out.below (b11.trans (b12.mono b11.size))
            replace b12 := b9.trans ((b11.trans (b12.mono b11.size)).mono b9.size)
            have T13 := T12.below ((Below.refl _ w12).alloc (Nat.le_refl _) (.cells #[.string nda, .int .i64 ndv, .int .i64 ((cnt : Int) + 1), .int .i64 ndo, .int .i64 ndm, .int .i64 ndp, .int .i64 nds] 30))
            have b13 := b12.alloc b12.size (.cells #[.string nda, .int .i64 ndv, .int .i64 ((cnt : Int) + 1), .int .i64 ndo, .int .i64 ndm, .int .i64 ndp, .int .i64 nds] 30)
            have HT13 := Lib.hid T13
            clear T13 T12 b12
            go_wp2_with fail
            go_roundw
            case rel => exact ⟨j + 1, k + 2, cnt + 1, T', g', cap', L', by omega, by omega, by go_num, by go_num, HT13, Lib.hid ⟨HK2.out, HP2.out, HC3.out⟩, by omega, by omega, b13⟩
            case measure => simp [intOf]; omega
      · rw [hfi]
        have HTP := Lib.hid hTp
        clear hTp hfi
        go_wp2_with fail
        refine HDOc.out.mono ?_
        rintro e w9 ⟨rfl, b9, T', g', cap', L', TW9, HS9, hL9⟩
        have HT9 := Lib.hid TW9
        have HK2 := Lib.hid (HS9.keys HKP.out.1)
        have HP2 := Lib.hid (HS9.par HKP.out.2.1)
        have HC2 := Lib.hid (HS9.new HTP.out)
        replace b9 := bk.trans ((b8.mono (by have := TW9.above; exact bk.size)).trans b9)
        have HF2 := Lib.hid (fun (W : World) (hW : Below w9.heap.size w9 W) => mfind_any 0 mp g' cap' L' p W ((TW9.below hW).mod) (by omega))
        clear TW9 HS9 c0 c1 c2 c3 c4 c5 c6 b8
        obtain ⟨fi, hfi⟩ : ∃ fi, fi = findI L' p L'.length := ⟨_, rfl⟩
        rw [← hfi] at HF2
        clear hfi
        go_wp2_with fail
        refine (HF2.out _ (Below.refl _ _)).mono ?_
        rintro e w10 ⟨rfl, b10⟩
        have T10 := HT9.out.below b10
        replace b10 := b9.trans (b10.mono b9.size)
        by_cases h0 : fi < 0
        · have f2 : decide (fi < 0) = true := by simpa using h0
          go_wp2_with fail
          go_roundw
          case rel => exact ⟨j + 1, k + 2, 0, T', g', cap', L', by omega, by omega, rfl, by go_num, Lib.hid T10, Lib.hid ⟨HK2.out, HP2.out, HC2.out⟩, by omega, by omega, b10⟩
          case measure => simp [intOf]; omega
        · have f2 : decide (fi < 0) = false := by simpa using h0
          go_wp2_with fail
          go_roundw
          case rel => exact ⟨j + 1, k + 2, 0, T', g', cap', L', by omega, by omega, rfl, by go_num, Lib.hid T10, Lib.hid ⟨HK2.out, HP2.out, HC2.out⟩, by omega, by omega, b10⟩
          case measure => simp [intOf]; omega
    · obtain rfl : j = qs.length := by omega
      have hlt2 : decide ((qs.length : Int) < (qs.length : Int)) = false := by simp
      go_wp2_with fail
      go_ret
      exact ⟨rfl, bk⟩

theorem own : ownKnob Tryd.prog.godebug = none := by kernel_rfl
theorem laidOut : laidOutB Tryd.prog = true := by kernel_rfl

theorem contract (H : Type) (enc : TypeId × Value → H) (W : World) (base : Nat) (args : Array Value) (ds gs : List (DataW H)) (before : List MemPlace)
    (hval : ∀ (j : Nat) t v, Tryd.f7.params[j]? = some t → args[j]? = some v → Value.okWide Tryd.prog W .any base t v)
    (hW : DataW.Whole enc Tryd.prog Tryd.f7.params.toList Rows.treeBelowsSpec.vars false W args.toList ds gs before) (hL : laidMetH Tryd.prog Rows.treeBelowsRow.laid W) :
    Calls Tryd.prog 7 args W fun e W' => ∃ v, e = .returned v ∧ Rows.treeBelowsSpec.post enc Tryd.prog Tryd.f7 false true false false W args v W' := by
  have hW' := hW
  obtain ⟨p, q, hA0, hV, rfl, hfz, hnd⟩ := hW
  have hA : DataW.TrodAll enc Tryd.prog W 0 (fun _ => true) true Tryd.f7.params.toList args.toList ds p := hA0
  rw [Tryd.params7] at hA hval
  obtain ⟨v0, vs0, d0, ds0, p0, q0, hargs, rfl, rfl, h0, r0⟩ := trodAll_cons hA
  obtain ⟨v1, vs1, d1, ds1, p1, q1, rfl, rfl, rfl, h1, r1⟩ := trodAll_cons r0
  obtain ⟨rfl, rfl, rfl⟩ := trodAll_nil r1
  obtain rfl : args = #[v0, v1] := by cases args; simp_all
  obtain ⟨rfl, rfl⟩ := trodVars_none hV
  have k0 := h0
  have lt0 : ∀ x ∈ p0, x.block < W.heap.size := by obtain ⟨m, hm⟩ := k0; exact DataW.trod_lt m _ _ _ hm
  obtain ⟨z0, w0⟩ := acts9_of (hval 0 45 v0 rfl rfl) h0
  have k1 := h1
  have lt1 : ∀ x ∈ p1, x.block < W.heap.size := by obtain ⟨m, hm⟩ := k1; exact DataW.trod_lt m _ _ _ hm
  obtain ⟨z1, w1⟩ := ints_of (hval 1 38 v1 rfl rfl) h1
  clear hA0
  refine (walk v0 z0 v1 z1 W w0 w1).mono fun e W' ⟨he, bel⟩ => ?_
  subst he
  exact ⟨_, rfl, _, _, _, [], _, [], hW', trodAll_mk1 (shut_bool Tryd.underlying4 _), (trodAll_cons_mk (Below.trod laidOut (by kernel_rfl) (of_decide_eq_true (by kernel_rfl)) k0 bel lt0) (trodAll_cons_mk (Below.trod laidOut (by kernel_rfl) (of_decide_eq_true (by kernel_rfl)) k1 bel lt1) trodAll_mk0)), rfl, bel.frame _, fun h => by cases h⟩

theorem laid_met (os : Os) : laidMet Tryd.prog Rows.treeBelowsRow.laid ((World.laidAll Tryd.prog os Rows.treeBelowsRow.laid).forCall (fun _ _ => 0) ⟨#[], #[.slice none 0 0, .slice none 0 0], []⟩).memory :=
  laidMet_laidAll _ (by kernel_rfl) (by kernel_rfl)
theorem reads (os : Os) {H : Type} (enc : TypeId × Value → H) : ∃ places, DataW.whole enc Tryd.prog ((World.laidAll Tryd.prog os Rows.treeBelowsRow.laid).forCall (fun _ _ => 0) ⟨#[], #[.slice none 0 0, .slice none 0 0], []⟩).memory Tryd.f7.params.toList Rows.treeBelowsSpec.vars false #[Value.slice none 0 0, Value.slice none 0 0].toList 8 = some ([.nil, .nil], [], places) :=
  ⟨[], by kernel_rfl⟩

set_option maxRecDepth 100000 in
theorem lifted (os : Os) (started : os.Started) (H : Type) (enc : TypeId × Value → H) (F : Stop.Interp) :
    ReturnsInHanded {} Tryd.checked os 7 .any ((OpenSpec.ofChange Rows.treeBelowsSpec).preRow enc Tryd.prog Tryd.f7 Rows.treeBelowsRow.domain false Rows.treeBelowsRow.laid) (((OpenSpec.ofChange Rows.treeBelowsSpec).at F).post enc Tryd.prog Tryd.f7 false true false false) := by
  obtain ⟨places, hx⟩ := reads os enc
  refine returnsInHanded_of_row (C := Tryd.checked) (s := OpenSpec.ofChange Rows.treeBelowsSpec) own started (by kernel_rfl) Tryd.func7
    (witness_zip (enc := enc) (C := Tryd.checked) false (World.laidAll Tryd.prog os Rows.treeBelowsRow.laid) #[.slice none 0 0, .slice none 0 0] (World.laidAll_os _ _ _) (World.shaped_of_ZipB (by kernel_rfl) (by kernel_rfl)) (by kernel_rfl)
      (OpenSpec.preRow_of_cond 8 hx (by kernel_rfl) (fun k hk => by cases hk) (by kernel_rfl) (laid_met os))) ?_
  intro W base args ds gs before hval hW _ _ _ hL _ _
  exact contract H enc W base args ds gs before hval hW hL

theorem said : Rows.TreeBelowsSaid :=
  OpenClaim.holds_of_cond 7 Tryd.f7 rfl rfl rfl rfl rfl rfl rfl ⟨rfl, rfl, rfl, rfl, rfl⟩ rfl rfl rfl rfl rfl (by kernel_rfl) Tryd.func7 (by kernel_rfl)
    (of_decide_eq_true (by kernel_rfl)) (by unfold Func.isWrapper; first | (rw [if_pos (by decide +kernel)]; kernel_rfl) | (rw [if_neg (by decide +kernel)]; exact ⟨rfl, rfl⟩))
    (fun os started H enc _ F => by rw [OpenClaim.pre_eq_preRow]; exact lifted os started H enc F)

theorem plain (f : FuncId) (fn : Func) (hf : Tryd.pinned.checked.prog.funcNamed "orchard/orchardlaw09.TreeBelows" = some f) (hfn : Tryd.pinned.checked.prog.funcs[f]? = some fn) :
    false = Tryd.pinned.checked.prog.looks [] ∧ ∀ (j : Nat) t, fn.params[j]? = some t → Tryd.pinned.checked.prog.wantsStandIn t = false := by
  obtain rfl : f = 7 := Option.some.inj ((show Tryd.prog.funcNamed "orchard/orchardlaw09.TreeBelows" = some 7 by kernel_rfl).symm.trans hf) |>.symm
  obtain rfl : fn = Tryd.f7 := (Option.some.inj (Tryd.func7.symm.trans hfn)).symm
  refine ⟨by kernel_rfl, fun j t ht => ?_⟩
  rw [Tryd.params7] at ht
  have hm := Array.mem_of_getElem? ht
  simp at hm
  rcases hm with rfl | rfl
  · exact (show Tryd.prog.wantsStandIn 45 = false by kernel_rfl)
  · exact (show Tryd.prog.wantsStandIn 38 = false by kernel_rfl)

theorem card : Rows.TreeBelowsCardSaid :=
  Claim7.holds_tied_plain_at .later [] _ _ _ _ said (fun _ h => by cases h) (by kernel_rfl) (fun _ h => by cases h) treeBelows_row_tie rfl ⟨rfl, rfl⟩ (by kernel_rfl) rfl plain (by kernel_rfl)
end Go.Proofs.YtoelceicldddmaaDoor.treeBelows
