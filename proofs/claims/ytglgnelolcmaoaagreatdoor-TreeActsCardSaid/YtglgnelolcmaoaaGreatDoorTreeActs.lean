/- TreeActs: whatever is done to a tree, each answer and all nodes behind it are as the chapter says; no condition on the input (the listed tables lie as the program's text lays them). -/
import Derived.Test.YtglgnelolcmaoaaGreatDoorTreeKidsM
import Derived.Test.YtglgnelolcmaoaaGreatDoorTreeNil
import Derived.Test.YtglgnelolcmaoaaGreatDoorTreeActs9
import Derived.Test.YtglgnelolcmaoaaGreatDoorTreeFew
import Derived.Test.YtglgnelolcmaoaaGreatDoorTreeHead
import Derived.Test.YtglgnelolcmaoaaGreatDoorPathArgs
import Derived.Test.YtglgnelolcmaoaaGreatDoorCards
import Derived.Test.YtglgnelolcmaoaaGreatDoorTie
import Derived.ProofKit
import Derived.OpenShut
import Derived.ShutString
import Derived.ChangeOld
import Derived.Deep.DeepHandedRow
import Derived.Lib.LaidTab
import Derived.Stop.LaidErr
import Derived.Lay
namespace Go.Proofs.YtglgnelolcmaoaaGreatDoor.treeActs
open Go.ChangeShapes Go.WideShapes Go.ChangeAt Go.RowKit
open Go.ChangeMaps (open_string shut_string)
set_option linter.unusedVariables false
set_option maxRecDepth 100000
theorem run_idxS (W : World) (g n c i : Nat) (h : i < n) (hn : n ≤ 1000) : (Instr.indexAt 35 (.slice (some ⟨g, 0, none⟩) n c) (.int .i64 (i : Int))).run Tryz.prog W = .ok (.pointer (some ⟨g, i, none⟩)) W := by
  have h0 : (0 : Int) ≤ (i : Int) := by omega
  have h1 : (i : Int) < (n : Int) := by omega
  go_simp
theorem run_loadStr (W : World) (p : Addr) (s : ByteArray) (h : W.cell? p = some (.string s)) : (Instr.loadAt 9 (.pointer (some p))).run Tryz.prog W = .ok (.string s) W := by go_simp
theorem call_mk (W : World) (v m : Value) : (callFunc 15 #[v, m]).run Tryz.prog W = .ok (.enter 15 #[v, m]) W := by kernel_rfl
theorem run_neS (W : World) (z : List UInt8) (s1 s2 : Operand) : (do eqGuard .neq 9 s1 s2 (.string (bs z)) (.string (bs z)); binOp .neq 9 (.string (bs z)) (.string (bs z)) : Sem Value).run Tryz.prog W = .ok (.bool false) W := by go_simp
def F20 (mp gk n kc i : Nat) (z s : List UInt8) : Nat → Value → World → Prop
  | 0, v, _ => v = .slice (some ⟨gk, 0, none⟩) n kc
  | 1, v, _ => v = .int .i64 (i : Int)
  | 2, v, _ => v = .pointer (some ⟨gk, i, none⟩)
  | 3, v, _ => v = .string (bs z)
  | 4, v, _ => v = .pointer (some ⟨mp, 0, none⟩)
  | 5, v, _ => v = .string (bs s)
  | 6, v, w => ∃ g5 c5, v = .slice (some ⟨g5, 0, none⟩) n c5 ∧ g5 < w.heap.size ∧ w.cell? ⟨g5, i, none⟩ = some (.string (bs z))
  | 7, v, _ => v = .int .i64 (i : Int)
  | 8, v, w => ∃ g5, v = .pointer (some ⟨g5, i, none⟩) ∧ g5 < w.heap.size ∧ w.cell? ⟨g5, i, none⟩ = some (.string (bs z))
  | 9, v, _ => v = .string (bs z)
  | _, _, _ => True
theorem F20_keep {mp gk n kc i : Nat} {z s : List UInt8} {v : Value} {w w' : World} : ∀ k, F20 mp gk n kc i z s k v w → Below w.heap.size w w' → F20 mp gk n kc i z s k v w'
  | 0, h, _ => h
  | 1, h, _ => h
  | 2, h, _ => h
  | 3, h, _ => h
  | 4, h, _ => h
  | 5, h, _ => h
  | 6, ⟨g5, c5, h1, h2, h3⟩, hb => ⟨g5, c5, h1, Nat.lt_of_lt_of_le h2 hb.size, (hb.cell (p := ⟨g5, i, none⟩) h2).trans h3⟩
  | 7, h, _ => h
  | 8, ⟨g5, h1, h2, h3⟩, hb => ⟨g5, h1, Nat.lt_of_lt_of_le h2 hb.size, (hb.cell (p := ⟨g5, i, none⟩) h2).trans h3⟩
  | 9, h, _ => h
  | _ + 10, _, _ => trivial
set_option maxHeartbeats 16000000 in
theorem walk (v0 : Value) (qs : List Aq) (w : World) (w0 : Acts9 w v0 qs) :
    Calls Tryz.prog 3 #[v0] w fun e w' => e = .returned (.bool true) ∧ Below w.heap.size w w' := by
  have HH := Lib.hid (head9_any w)
  have w0' := w0
  obtain ⟨xa, xc, hva, hxm, _⟩ := w0'
  subst hva
  have HA := Lib.hid w0
  have HF := Lib.hid (fun (W : World) (hb : Below w.heap.size w W) => few9_any xa xc qs W (w0.below hb))
  clear w0
  by_cases hfw : few9 qs = false
  · rw [hfw] at HF
    clear hxm
    go_enter Tryz.func3, Tryz.ntmps3
    go_wp2_with fail
    refine HH.out.mono ?_
    rintro e w1 ⟨rfl, b1⟩
    go_wp2_with fail
    refine (HF.out _ b1).mono ?_
    rintro e w2 ⟨rfl, b2⟩
    go_wp2_with fail
    go_ret
    exact ⟨rfl, b1.trans (b2.mono b1.size)⟩
  have hfew : few9 qs = true := by cases h : few9 qs; exact absurd h hfw; rfl
  rw [hfew] at HF
  have HFW := Lib.hid hfew
  have hq40 : qs.length ≤ 40 := by unfold few9 at hfew; rw [Bool.and_eq_true] at hfew; simpa using hfew.2
  clear hfw hfew hxm
  go_enter Tryz.func3, Tryz.ntmps3
  go_wp2_with fail
  refine HH.out.mono ?_
  rintro e w1 ⟨rfl, b1⟩
  go_wp2_with fail
  refine (HF.out _ b1).mono ?_
  rintro e w2 ⟨rfl, b2⟩
  replace b2 := b1.trans (b2.mono b1.size)
  have HN := Lib.hid (new_any w2)
  go_wp2_with fail
  refine HN.out.mono ?_
  rintro e w3 ⟨tb, mb, rfl, H3, b3, ht, hmb⟩
  have hmw : w.heap.size ≤ mb := Nat.le_trans b2.size hmb
  have htw : w.heap.size ≤ tb := Nat.le_trans b2.size ht
  replace b3 := b2.trans (b3.mono b2.size)
  have HMN := Lib.hid (mnew_any w3)
  clear HN HH HF b1 b2 ht hmb
  go_wp2_with fail
  refine HMN.out.mono ?_
  rintro e w4 ⟨rfl, M4, b4⟩
  have H4 := H3.below b4
  have htl := H3.lt
  have hml := H3.map.lt
  have TW4 : Two w.heap.size 0 w4 tb mb 1 (w3.heap.size + 1) w3.heap.size 1 rootT [([47], Nd.zero)] := ⟨H4, ⟨M4.box, M4.row.mono (Nat.zero_le _)⟩, Rep.root, SmallK.root, by omega, htw, hmw, by have := b3.size; omega, b3.size, Nat.le_trans b3.size b4.size⟩
  replace b4 := b3.trans (b4.mono b3.size)
  obtain ⟨mp, hmp⟩ : ∃ mp, mp = w3.heap.size + 1 := ⟨_, rfl⟩
  obtain ⟨g0, hg0⟩ : ∃ g0, g0 = w3.heap.size := ⟨_, rfl⟩
  rw [← hmp, ← hg0] at TW4
  rw [← hmp]
  clear hmp hg0 M4 H4 H3 b3 HMN htl hml
  go_wp2_with fail
  go_loopw [29] (fun iv wr => ∃ (j k : Nat) (T : List UInt8 → Option Nd) (g cap : Nat) (L : List Me), j ≤ qs.length ∧ k ≤ 1 + 2 * j ∧ iv = .int .i64 j ∧ Hid (Two w.heap.size j wr tb mb k mp g cap T L) ∧ Hid (KeysOk T ∧ ParOk T ∧ RootOk T) ∧ L.length ≤ 1 + j ∧ Below w.heap.size w wr) (fun iv _ => qs.length - (intOf iv).toNat)
  case atStart => exact ⟨0, 1, rootT, g0, 1, _, by omega, by omega, rfl, Lib.hid TW4, Lib.hid ⟨KeysOk.root, ParOk.root, RootOk.root⟩, by simp, b4⟩
  case round =>
    obtain ⟨j, k, T, g, cap, L, hj, hk, rfl, HTW, HKP, hL, bk⟩ := hrel
    clear TW4 b4
    by_cases hlt : j < qs.length
    · have hlt2 : decide ((j : Int) < (qs.length : Int)) = true := by simp; omega
      obtain ⟨hok, hpv, ga, off, rfl, h0, h1, h2, h3, h4, h5, h6⟩ := act9_at HA.out bk hlt
      obtain ⟨hf1, hf2, hf3, _⟩ := few9_at HFW.out hlt
      have HPV := Lib.hid hpv
      have t2 : IntKind.i64.wrap ((j : Int) + 1) = (j : Int) + 1 := IntWalk.i64_in _ (by omega)
      have hj0 : (0 : Int) ≤ (j : Int) := by omega
      have hji : (j : Int) < (qs.length : Int) := by omega
      have HIN := Lib.hid (fun (W : World) (hW : Below w.heap.size w W) => (act9_at HA.out hW hlt).2.1)
      clear hok
      generalize qs.getD j aq0 = x at *
      obtain ⟨fa, fcap, hfv, _, hfm, _⟩ := hpv.1
      obtain ⟨⟨ak, av, ao, ap, ar, ad, asr⟩, pv⟩ := x
      simp only at *
      subst hfv
      clear hpv hfm
      have HDO := Lib.hid (fun (W : World) (hW : Below wr.heap.size wr W) => do_all w.heap.size j tb mb k T mp g cap L ⟨ak, av, ao, ap, ar, ad, asr⟩ (.slice fa ap.length fcap) ((j : Int) + 1) W (HTW.out.below hW) (by omega) (by omega) (by omega) hf2 ⟨HPV.out.1.below hW, HPV.out.2⟩ hf1 hf3 HKP.out.1 HKP.out.2.1)
      have HAS := Lib.hid (fun (W : World) (hW : Below w.heap.size w W) => acts_any ⟨ak, av, ao, ap, ar, ad, asr⟩ (.slice fa ap.length fcap) W (HIN.out W hW) (Nat.le_trans hf1 (by decide)))
      have bA := (Below.refl _ wr).alloc (Nat.le_refl _) (.cells #[.int .i64 ak, .int .i64 av, .int .i64 ao, .slice fa ap.length fcap, .string ar, .string ad, .bool asr] 31)
      have N6 := heap_alloc_new wr (.cells #[.int .i64 ak, .int .i64 av, .int .i64 ao, .slice fa ap.length fcap, .string ar, .string ad, .bool asr] 31)
      have hmlt := HTW.out.tree.map.lt
      have hplt := HTW.out.mod.ltm
      have hglt := HTW.out.mod.ltg
      obtain ⟨o, ho4, ho⟩ : ∃ o : Nat, o < 4 ∧ bits .and .i64 ao 3 = (o : Int) := ⟨(ao % 4).toNat, by omega, by rw [i64_and3']; omega⟩
      obtain ⟨s, hs⟩ : ∃ s, s = acS ⟨ak, av, ao, ap, ar, ad, asr⟩ := ⟨_, rfl⟩
      have hsl : s.length ≤ 1000 := by
        rw [hs]
        unfold acS
        split
        · show (madeL (wsOf ap)).length ≤ 1000; have := made_len ap; omega
        · show ar.data.toList.length ≤ 1000; have := hf3; rw [Lib.size_eq] at this; omega
      rw [← hs] at HAS
      go_upto_region 10 with fail
      obtain ⟨w6, hw6⟩ : ∃ w6, w6 = wr.alloc (.cells #[.int .i64 ak, .int .i64 av, .int .i64 ao, .slice fa ap.length fcap, .string ar, .string ad, .bool asr] 31) := ⟨_, rfl⟩
      rw [← hw6] at bA N6 ⊢
      have hlr : wr.heap.size < w6.heap.size := (Array.getElem?_eq_some_iff.1 N6).1
      obtain ⟨ab, hab⟩ : ∃ ab, ab = wr.heap.size := ⟨_, rfl⟩
      have hbw : w.heap.size ≤ wr.heap.size := bk.size
      have HDOc := Lib.hid (HDO.out _ bA)
      unfold acV at HDOc
      have hbw6 : w.heap.size ≤ w6.heap.size := by omega
      replace bA := bk.trans (bA.mono bk.size)
      rw [← hab] at N6 hlr hmlt hplt hglt ⊢
      have c0 : w6.cell? ⟨ab, 0, none⟩ = some (.int .i64 ak) := by simp [World.cell?, N6]
      have c1 : w6.cell? ⟨ab, 1, none⟩ = some (.int .i64 av) := by simp [World.cell?, N6]
      have c2 : w6.cell? ⟨ab, 2, none⟩ = some (.int .i64 ao) := by simp [World.cell?, N6]
      have c3 : w6.cell? ⟨ab, 3, none⟩ = some (.slice fa ap.length fcap) := by simp [World.cell?, N6]
      have c4 : w6.cell? ⟨ab, 4, none⟩ = some (.string ar) := by simp [World.cell?, N6]
      have c5 : w6.cell? ⟨ab, 5, none⟩ = some (.string ad) := by simp [World.cell?, N6]
      have c6 : w6.cell? ⟨ab, 6, none⟩ = some (.bool asr) := by simp [World.cell?, N6]
      clear hw6 hab hs HDO h0 h1 h2 h3 h4 h5 h6 bk hbw HPV
      go_wp2_with fail
      refine HDOc.out.mono ?_
      rintro e w9 ⟨rfl, b9, K9, T', g', cap', L', TW9, HS9, hL9⟩
      have N9 := (K9.2 ab hlr (by omega) (by omega) (by omega)).trans N6
      replace b9 := bA.trans b9
      have HK9 := Lib.hid (⟨HS9.keys HKP.out.1, HS9.par HKP.out.2.1, HS9.rootOk HKP.out.2.2⟩ : KeysOk T' ∧ ParOk T' ∧ RootOk T')
      have hKL : ∀ x n, T' x = some n → x.length ≤ 1000 := fun x n hx => by
        have hck := HK9.out.1 x n hx
        by_cases hr : x = [47]
        · rw [hr]; decide
        · obtain ⟨_, _, _, _, _, h⟩ := check_split hck hr; omega
      have HSM := Lib.hid (samem_any tb mb (k + 2) T' 0 mp g' cap' L' w9 TW9.tree TW9.mod TW9.rep (by omega) HK9.out.1 hKL)
      have HT9 := Lib.hid TW9
      have HN9 := Lib.hid N9
      clear c0 c1 c2 c3 c4 c5 c6 bA K9 TW9 HS9 HTW HKP HDOc N6 N9 hmlt hplt hglt hlr hKL
      go_wp2_with fail
      refine HSM.out.mono ?_
      rintro e w10 ⟨rfl, b10⟩
      have hab9 : ab < w9.heap.size := (Array.getElem?_eq_some_iff.1 HN9.out).1
      have N10 := (b10.block ab hab9).trans HN9.out
      have HT10 := Lib.hid (HT9.out.below b10)
      replace b10 := b9.trans (b10.mono b9.size)
      have c0 : w10.cell? ⟨ab, 0, none⟩ = some (.int .i64 ak) := by simp [World.cell?, N10]
      have c1 : w10.cell? ⟨ab, 1, none⟩ = some (.int .i64 av) := by simp [World.cell?, N10]
      have c2 : w10.cell? ⟨ab, 2, none⟩ = some (.int .i64 ao) := by simp [World.cell?, N10]
      have c3 : w10.cell? ⟨ab, 3, none⟩ = some (.slice fa ap.length fcap) := by simp [World.cell?, N10]
      have c4 : w10.cell? ⟨ab, 4, none⟩ = some (.string ar) := by simp [World.cell?, N10]
      have c5 : w10.cell? ⟨ab, 5, none⟩ = some (.string ad) := by simp [World.cell?, N10]
      have c6 : w10.cell? ⟨ab, 6, none⟩ = some (.bool asr) := by simp [World.cell?, N10]
      have HN10 := Lib.hid N10
      have hab10 : ab < w10.heap.size := (Array.getElem?_eq_some_iff.1 N10).1
      clear HSM HT9 HN9 b9 N10 hab9
      go_wp2_with fail
      refine (HAS.out _ b10).mono ?_
      rintro e w11 ⟨rfl, b11⟩
      have N11 := Lib.hid ((b11.block ab hab10).trans HN10.out)
      have HT11 := Lib.hid (HT10.out.below b11)
      replace b11 := b10.trans (b11.mono b10.size)
      have hab11 : ab < w11.heap.size := (Array.getElem?_eq_some_iff.1 N11.out).1
      clear HAS HIN HN10 HT10 b10 c0 c1 c2 c3 c4 c5 c6 hab10
      rcases getN_cases T' s with ⟨ge, hge, hge2⟩ | ⟨hck, nd, hTs, hgn⟩
      · have HKI := Lib.hid (kidsT_err tb mb (k + 2) L'.length T' s ge w11 HT11.out.tree (by omega) hge (by omega))
        have e1 : (ge == 0) = false := by simp; omega
        have HG := Lib.hid (fun (W : World) (hW : Below w11.heap.size w11 W) => get_any tb mb (k + 2) L'.length T' s W ((HT11.out.below hW).tree) (by omega))
        rw [hge] at HG
        unfold ndV at HG
        simp only [Nd.zero] at HG
        clear hge hge2
        go_wp2_with fail
        refine HKI.out.mono ?_
        rintro e w12 ⟨rfl, b12⟩
        go_wp2_with fail
        refine (HG.out _ b12).mono ?_
        rintro e w13 ⟨rfl, b13⟩
        obtain ⟨w14, hst, _, b14, _⟩ := newN w13 Nd.zero
        simp only [ndV, Nd.zero] at hst
        have HST := Lib.hid hst
        replace b14 := (b12.trans (b13.mono b12.size)).trans (b14.mono (by have := b12.size; have := b13.size; omega))
        have N14 := Lib.hid ((b14.block ab hab11).trans N11.out)
        have HT14 := Lib.hid (HT11.out.below b14)
        have HRW : Hid (SRow w14 0 (.slice none 0 0) []) := Lib.hid (by simpa [SRow] using World.ownsRow_nil w14 0 9 1)
        have HKS : Hid (([] : List (List UInt8)) = [] ∨ ([] : List (List UInt8)) = kidsL L' s) := Lib.hid (.inl rfl)
        have HKR : Hid (True) := Lib.hid trivial
        replace b14 := b11.trans (b14.mono b11.size)
        clear hst b12 b13 HKI HG N11 HT11 b11 hab11
        go_upto_region 15 with (refine wpList_store_run HST.out rfl rfl rfl rfl ?_)
        clear HST
        have e9 : (ge != ge) = false := by simp
        go_upto_region 17 with fail
        clear e1 e9
        go_wp2_with fail
        go_loopw [79] (fun iv wx => ∃ i : Nat, i ≤ 0 ∧ iv = .int .i64 i ∧ Hid (SRow wx 0 (.slice none 0 0) []) ∧ Hid (wx.heap[ab]? = some (.cells #[.int .i64 ak, .int .i64 av, .int .i64 ao, .slice fa ap.length fcap, .string ar, .string ad, .bool asr] 31 (0, 0))) ∧ Hid (Two w.heap.size (j + 1) wx tb mb (k + 2) mp g' cap' T' L') ∧ Below w.heap.size w wx) (fun iv _ => 0 - (intOf iv).toNat)
        case atStart => exact ⟨0, by omega, rfl, HRW, N14, HT14, b14⟩
        case round =>
          obtain ⟨i, hi, rfl, HR2, N2, HT2, b2⟩ := hrel
          clear HRW N14 HT14 b14
          by_cases hlk : i < 0
          · exact absurd hlk (by simp)
          · have hlk2 : decide ((i : Int) < (0 : Int)) = false := decide_eq_false (by omega)
            have c2 : wr.cell? ⟨ab, 2, none⟩ = some (.int .i64 ao) := by simp [World.cell?, N2.out]
            have HOW := Lib.hid (ownT_any tb mb (k + 2) L'.length T' L' (o : Int) wr HT2.out.tree HT2.out.rep (by omega))
            go_wp2_with fail
            refine HOW.out.mono ?_
            rintro e w16 ⟨v16, rfl, hr16, b16⟩
            obtain ⟨OS, hOS⟩ : ∃ OS, OS = (if (o : Int) = 0 then [] else ownL L' (o : Int)) := ⟨_, rfl⟩
            rw [← hOS] at hr16
            have HOS := Lib.hid hOS
            obtain ⟨a16, c16, rfl, ha16⟩ := row_formL hr16
            have HR16 := Lib.hid (show SRow w16 wr.heap.size _ OS from hr16)
            have HA16 := Lib.hid ha16
            have N16 := Lib.hid ((b16.block ab (Array.getElem?_eq_some_iff.1 N2.out).1).trans N2.out)
            have HT16 := Lib.hid (HT2.out.below b16)
            replace b16 := b2.trans (b16.mono b2.size)
            have hmc := HT16.out.mod.cell
            have hosl : OS.length ≤ L'.length := by
              rw [hOS]; split
              · simp
              · exact ownL_len _ _
            obtain ⟨ow, how⟩ : ∃ ow : Nat, ow = wr.heap.size := ⟨_, rfl⟩
            rw [← how] at HR16
            clear hr16 hOS ha16 HR2 N2 HT2 b2 c2 HOW how hlk hlk2 hi HKR HKS
            go_wp2_with fail
            go_loopw [14, 104] (fun nv iv wx => ∃ i : Nat, i ≤ L'.length ∧ iv = .int .i64 i ∧ nv = .int .i64 ((if (o : Int) = 0 then 0 else (ownL (L'.take i) (o : Int)).length : Nat) : Int) ∧ Hid (SRow wx ow (.slice a16 OS.length c16) OS) ∧ Hid (wx.heap[ab]? = some (.cells #[.int .i64 ak, .int .i64 av, .int .i64 ao, .slice fa ap.length fcap, .string ar, .string ad, .bool asr] 31 (0, 0))) ∧ Hid (Two w.heap.size (j + 1) wx tb mb (k + 2) mp g' cap' T' L') ∧ Below w.heap.size w wx) (fun _ iv _ => L'.length - (intOf iv).toNat)
            case atStart => exact ⟨0, by omega, rfl, by split <;> rfl, HR16, N16, HT16, b16⟩
            case round =>
              obtain ⟨i, hi, rfl, rfl, HR2, N2, HT2, b2⟩ := hrel
              clear HR16 N16 HT16 b16 hmc
              obtain ⟨nn, hnn⟩ : ∃ nn : Nat, nn = (if (o : Int) = 0 then 0 else (ownL (L'.take i) (o : Int)).length) := ⟨_, rfl⟩
              rw [← hnn]
              have HNN := Lib.hid hnn
              have hnl : nn ≤ L'.length := by
                rw [hnn]; split
                · omega
                · have := ownL_len (L'.take i) (o : Int); rw [List.length_take] at this; omega
              clear hnn
              by_cases hlk : i < L'.length
              · have hlk2 : decide ((i : Int) < (L'.length : Int)) = true := by simp; omega
                have t3 : IntKind.i64.wrap ((i : Int) + 1) = (i : Int) + 1 := IntWalk.i64_in _ (by omega)
                have t4 : IntKind.i64.wrap ((nn : Int) + 1) = (nn : Int) + 1 := IntWalk.i64_in _ (by omega)
                have hi0 : (0 : Int) ≤ (i : Int) := by omega
                have hii : (i : Int) < (L'.length : Int) := by omega
                obtain ⟨⟨p, n⟩, he⟩ : ∃ e, L'[i]? = some e := ⟨L'[i], by simp [hlk]⟩
                have HLD := Lib.hid (run_loadE HT2.out.mod he)
                obtain ⟨w17, hst, E17, b17⟩ := newE wr (p, n)
                have HST := Lib.hid hst
                have N17 := Lib.hid ((b17.block ab (Array.getElem?_eq_some_iff.1 N2.out).1).trans N2.out)
                have HT17 := Lib.hid (HT2.out.below b17)
                have HR17 := Lib.hid (HR2.out.low b17)
                have hab17 : ab < wr.heap.size := (Array.getElem?_eq_some_iff.1 N2.out).1
                replace b17 := b2.trans (b17.mono b2.size)
                obtain ⟨x0, x1, x2, x3, x4, x5, x6, x7⟩ := E17.cells
                have c2 : w17.cell? ⟨ab, 2, none⟩ = some (.int .i64 ao) := by simp [World.cell?, N17.out]
                unfold meA at HLD HST
                simp only at HLD HST x0 x1 x2 x3 x4 x5 x6 x7
                have HE := Lib.hid he
                clear he hst N2 HT2 HR2 b2 E17
                by_cases hm : n.owner = (o : Int)
                · have e1 : (n.owner == (o : Int)) = true := by simpa using hm
                  by_cases h0 : (o : Int) = 0
                  · have e2 : ((o : Int) != 0) = false := by simpa using h0
                    have HN2 : Hid ((nn : Int) = ((if (o : Int) = 0 then 0 else (ownL (L'.take (i + 1)) (o : Int)).length : Nat) : Int)) := Lib.hid (by rw [HNN.out, if_pos h0, if_pos h0])
                    clear h0 hm
                    go_upto_region 28 with (first | (refine wpList_load_run HLD.out rfl rfl rfl ?_) | (refine wpList_store_run HST.out rfl rfl rfl rfl ?_))
                    go_wp2_with fail
                    go_roundw
                    case rel => exact ⟨i + 1, by omega, by go_num, by rw [← HN2.out], HR17, N17, HT17, b17⟩
                    case measure => simp [intOf]; omega
                  · have e2 : ((o : Int) != 0) = true := by simpa using h0
                    have hOE := HOS.out
                    rw [if_neg h0] at hOE
                    have hNE := HNN.out
                    rw [if_neg h0] at hNE
                    have hat := ownL_at L' (o : Int) i (p, n) HE.out e1
                    rw [← hOE, ← hNE] at hat
                    have hnl2 : nn < OS.length := (List.getElem?_eq_some_iff.1 hat).1
                    have e3 : decide ((OS.length : Int) ≤ (nn : Int)) = false := by simp; omega
                    obtain ⟨gk, rfl⟩ := HA16.out (by omega)
                    have hcz := HR17.out.at hnl2 hat
                    simp only at hcz
                    have hn0 : (0 : Int) ≤ (nn : Int) := by omega
                    have hni : (nn : Int) < (OS.length : Int) := by omega
                    have HN2 : Hid (((nn : Int) + 1) = ((if (o : Int) = 0 then 0 else (ownL (L'.take (i + 1)) (o : Int)).length : Nat) : Int)) := Lib.hid (by
                      rw [if_neg h0, ownL_succ L' (o : Int) i (p, n) HE.out, e1, if_pos rfl, List.length_append, ← hNE]; simp)
                    clear h0 hm hat hOE hNE
                    go_upto_region 28 with (first | (refine wpList_load_run HLD.out rfl rfl rfl ?_) | (refine wpList_store_run HST.out rfl rfl rfl rfl ?_))
                    go_upto_region 29 with fail
                    go_quiet (fail)
                    have b18 := drewN_below w17 nq
                    have HR18 := Lib.hid (HR17.out.low b18)
                    have N18 := Lib.hid ((b18.block ab (Array.getElem?_eq_some_iff.1 N17.out).1).trans N17.out)
                    have HT18 := Lib.hid (HT17.out.below b18)
                    replace b18 := b17.trans (b18.mono b17.size)
                    obtain ⟨w18, hw18⟩ : ∃ w18, w18 = w17.drewN nq := ⟨_, rfl⟩
                    rw [← hw18] at b18 HR18 N18 HT18 ⊢
                    clear hw18 hcz x0 x1 x2 x3 x4 x5 x6 x7 c2 HR17 N17 HT17 b17
                    go_wp2_with fail
                    go_roundw
                    case rel => exact ⟨i + 1, by omega, by go_num, by rw [← HN2.out], HR18, N18, HT18, b18⟩
                    case measure => simp [intOf]; omega
                · have e1 : (n.owner == (o : Int)) = false := by simpa using hm
                  have HN2 : Hid ((nn : Int) = ((if (o : Int) = 0 then 0 else (ownL (L'.take (i + 1)) (o : Int)).length : Nat) : Int)) := Lib.hid (by
                    rw [HNN.out, ownL_succ L' (o : Int) i (p, n) HE.out]
                    simp only [e1]
                    simp)
                  clear hm
                  go_upto_region 28 with (first | (refine wpList_load_run HLD.out rfl rfl rfl ?_) | (refine wpList_store_run HST.out rfl rfl rfl rfl ?_))
                  go_wp2_with fail
                  go_roundw
                  case rel => exact ⟨i + 1, by omega, by go_num, by rw [← HN2.out], HR17, N17, HT17, b17⟩
                  case measure => simp [intOf]; omega
              · have hlk2 : decide ((i : Int) < (L'.length : Int)) = false := by simp; omega
                have hnO : nn = OS.length := by
                  rw [HNN.out, HOS.out, List.take_of_length_le (by omega)]
                  split <;> rfl
                subst hnO
                clear hnl
                go_wp2_with fail
                go_roundw
                case rel => exact ⟨j + 1, k + 2, T', g', cap', L', by omega, by omega, by go_num, HT2, HK9, by omega, b2⟩
                case measure => simp [intOf]; omega
      · have HKI := Lib.hid (kidsT_any tb mb (k + 2) L'.length T' L' s nd w11 HT11.out.tree HT11.out.rep (by omega) (by omega) HK9.out.1 hck hTs)
        have HG := Lib.hid (fun (W : World) (hW : Below w11.heap.size w11 W) => get_any tb mb (k + 2) L'.length T' s W ((HT11.out.below hW).tree) (by omega))
        rw [hgn] at HG
        unfold ndV at HG
        have HMK := Lib.hid (fun (W : World) (hW : Below w11.heap.size w11 W) => mkids_any 0 mp g' cap' L' s W ((HT11.out.below hW).mod) (by omega) (fun e he => HK9.out.1 e.1 e.2 ((HT11.out.rep.mem _ _).2 he)))
        clear hck hTs hgn
        go_wp2_with fail
        refine HKI.out.mono ?_
        rintro e w12 ⟨v, rfl, hrow, b12⟩
        obtain ⟨KS, hKS⟩ : ∃ KS, KS = kidsL L' s := ⟨_, rfl⟩
        have HKS : Hid (KS = [] ∨ KS = kidsL L' s) := Lib.hid (.inr hKS)
        have hKL : (kidsL L' s).length = KS.length := by rw [hKS]
        have HR12 : SRow w12 w11.heap.size v KS := by rw [hKS]; exact hrow
        obtain ⟨ka, kc, rfl, hka⟩ := HR12.form
        have HKR := Lib.hid hka
        clear hKS hrow hka
        go_wp2_with fail
        refine (HG.out _ b12).mono ?_
        rintro e w13 ⟨rfl, b13⟩
        have HR13 := HR12.low b13
        replace b13 := b12.trans (b13.mono b12.size)
        obtain ⟨w14, hst, _, b14, _⟩ := newN w13 nd
        unfold ndV at hst
        have HST := Lib.hid hst
        have HR14 := HR13.low b14
        replace b14 := b13.trans (b14.mono b13.size)
        clear hst HR12 HR13 b12 b13 HKI HG
        go_upto_region 15 with (refine wpList_store_run HST.out rfl rfl rfl rfl ?_)
        go_wp2_with fail
        refine (HMK.out _ b14).mono ?_
        rintro e w15 ⟨v2, rfl, hrow2, b15⟩
        rw [hKL] at hrow2
        obtain ⟨a2, c2, rfl, _⟩ := row_formL hrow2
        have HRW := Lib.hid (HR14.low b15)
        replace b15 := b14.trans (b15.mono b14.size)
        have N15 := Lib.hid ((b15.block ab hab11).trans N11.out)
        have HT15 := Lib.hid (HT11.out.below b15)
        replace b15 := b11.trans (b15.mono b11.size)
        clear hrow2 HR14 b14 HMK HST N11 HT11 hKL b11 hab11
        go_upto_region 17 with fail
        go_wp2_with fail
        go_loopw [79] (fun iv wx => ∃ i : Nat, i ≤ KS.length ∧ iv = .int .i64 i ∧ Hid (SRow wx w11.heap.size (.slice ka KS.length kc) KS) ∧ Hid (wx.heap[ab]? = some (.cells #[.int .i64 ak, .int .i64 av, .int .i64 ao, .slice fa ap.length fcap, .string ar, .string ad, .bool asr] 31 (0, 0))) ∧ Hid (Two w.heap.size (j + 1) wx tb mb (k + 2) mp g' cap' T' L') ∧ Below w.heap.size w wx) (fun iv _ => KS.length - (intOf iv).toNat)
        case atStart => exact ⟨0, by omega, rfl, HRW, N15, HT15, b15⟩
        case round =>
          obtain ⟨i, hi, rfl, HR2, N2, HT2, b2⟩ := hrel
          clear HRW N15 HT15 b15
          by_cases hlk : i < KS.length
          · have hlk2 : decide ((i : Int) < (KS.length : Int)) = true := by simp; omega
            have hi0 : (0 : Int) ≤ (i : Int) := by omega
            have hii : (i : Int) < (KS.length : Int) := by omega
            obtain ⟨gk, rfl⟩ := HKR.out (by omega)
            have hKQ : KS = kidsL L' s := by
              rcases HKS.out with h | h
              · rw [h] at hlk; exact absurd hlk (by simp)
              · exact h
            have hn1000 : KS.length ≤ 1000 := by have := kidsL_len L' s; rw [← hKQ] at this; omega
            have t3 : IntKind.i64.wrap ((i : Int) + 1) = (i : Int) + 1 := IntWalk.i64_in _ (by omega)
            obtain ⟨z, hz⟩ : ∃ z, KS[i]? = some z := ⟨KS[i], by simp [hlk]⟩
            have hcz := HR2.out.at hlk hz
            have hgk : gk < wr.heap.size := (World.ownsRow.lt HR2.out gk rfl).2
            have HMK := Lib.hid (fun (W : World) (hW : Below wr.heap.size wr W) => mkids_any 0 mp g' cap' L' s W ((HT2.out.below hW).mod) (by omega) (fun e he => HK9.out.1 e.1 e.2 ((HT2.out.rep.mem _ _).2 he)))
            rw [← hKQ] at HMK
            have HZ := Lib.hid hz
            have HCZ : Hid (∀ W : World, Below wr.drew.heap.size wr.drew W → Below wr.heap.size wr W ∧ W.cell? ⟨gk, i, none⟩ = some (.string (bs z))) := Lib.hid (fun W hW => ⟨(Below.refl _ wr).drew.trans hW, (hW.cell (p := ⟨gk, i, none⟩) hgk).trans hcz⟩)
            clear hKQ hz hcz
            go_upto_region 20 with fail
            refine wp_region_steps_last 10 (F20 mp gk KS.length kc i z s) (fun x y => Below x.heap.size x y) (by kernel_rfl) (by kernel_rfl) (by kernel_rfl) (by kernel_rfl) (by kernel_rfl) (Below.refl _ _) (fun i v x y _ h hb => F20_keep i h hb) (fun x y z h1 h2 => h1.trans (h2.mono h1.size)) ?_ ?_
            · intro i9 o9 hi9 ho9 x W hR hF
              match i9, ho9 with
              | 0, ho9 =>
                obtain rfl := Option.some.inj ho9
                exact gstep_move rfl (wanted0 rfl) _ rfl _ (eval_of 8 _ (by kernel_rfl) rfl) ⟨_, rfl, rfl, Below.refl _ _⟩
              | 1, ho9 =>
                obtain rfl := Option.some.inj ho9
                exact gstep_move rfl (wanted0 rfl) _ rfl _ (eval_of 12 _ (by kernel_rfl) rfl) ⟨_, rfl, rfl, Below.refl _ _⟩
              | 2, ho9 =>
                obtain rfl := Option.some.inj ho9
                exact gstep_index rfl (wanted0 rfl) _ _ _ rfl _ _ (eval_at 82 0 _ (by kernel_rfl) (show 82 < 176 by decide) (hF 0 (by kernel_rfl))) (eval_at 83 1 _ (by kernel_rfl) (show 83 < 176 by decide) (hF 1 (by kernel_rfl))) _ (run_idxS W gk _ _ i hlk hn1000) ⟨_, rfl, rfl, Below.refl _ _⟩
              | 3, ho9 =>
                obtain rfl := Option.some.inj ho9
                exact gstep_load rfl (wanted0 rfl) _ _ rfl _ (eval_at 84 2 _ (by kernel_rfl) (show 84 < 176 by decide) (hF 2 (by kernel_rfl))) _ (run_loadStr W _ _ (HCZ.out W hR).2) ⟨_, rfl, rfl, Below.refl _ _⟩
              | 4, ho9 =>
                obtain rfl := Option.some.inj ho9
                exact gstep_move rfl (wanted0 rfl) _ rfl _ (eval_of 4 _ (by kernel_rfl) rfl) ⟨_, rfl, rfl, Below.refl _ _⟩
              | 5, ho9 =>
                obtain rfl := Option.some.inj ho9
                exact gstep_move rfl (wanted0 rfl) _ rfl _ (eval_of 7 _ (by kernel_rfl) rfl) ⟨_, rfl, rfl, Below.refl _ _⟩
              | 6, ho9 =>
                obtain rfl := Option.some.inj ho9
                refine gstep_call2 rfl (wanted0 rfl) _ _ _ _ rfl _ _ (eval_at 86 4 _ (by kernel_rfl) (show 86 < 176 by decide) (hF 4 (by kernel_rfl))) (eval_at 87 5 _ (by kernel_rfl) (show 87 < 176 by decide) (hF 5 (by kernel_rfl))) (call_mk W _ _) ?_
                refine (HMK.out W (HCZ.out W hR).1).mono ?_
                rintro e W2 ⟨v5, rfl, hr5, hb5⟩
                obtain ⟨a5, c5, rfl, ha5⟩ := row_formL hr5
                obtain ⟨g5, rfl⟩ := ha5 (by omega)
                exact ⟨_, rfl, _, rfl, ⟨g5, c5, rfl, (World.ownsRow.lt hr5 g5 rfl).2, SRow.at (show SRow W2 _ _ KS from hr5) hlk HZ.out⟩, hb5⟩
              | 7, ho9 =>
                obtain rfl := Option.some.inj ho9
                exact gstep_move rfl (wanted0 rfl) _ rfl _ (eval_of 12 _ (by kernel_rfl) rfl) ⟨_, rfl, rfl, Below.refl _ _⟩
              | 8, ho9 =>
                obtain rfl := Option.some.inj ho9
                obtain ⟨g5, c5, hx6, hg5, hc5⟩ := hF 6 (by kernel_rfl)
                exact gstep_index rfl (wanted0 rfl) _ _ _ rfl _ _ (eval_at 88 6 _ (by kernel_rfl) (show 88 < 176 by decide) hx6) (eval_at 89 7 _ (by kernel_rfl) (show 89 < 176 by decide) (hF 7 (by kernel_rfl))) _ (run_idxS W g5 _ _ i hlk hn1000) ⟨_, rfl, ⟨g5, rfl, hg5, hc5⟩, Below.refl _ _⟩
              | 9, ho9 =>
                obtain rfl := Option.some.inj ho9
                obtain ⟨g5, hx8, hg5, hc5⟩ := hF 8 (by kernel_rfl)
                exact gstep_load rfl (wanted0 rfl) _ _ rfl _ (eval_at 90 8 _ (by kernel_rfl) (show 90 < 176 by decide) hx8) _ (run_loadStr W _ _ hc5) ⟨_, rfl, rfl, Below.refl _ _⟩
              | n + 10, ho9 => omega
            · intro o9 ho9 x w5 hR hF
              obtain rfl := Option.some.inj ho9
              refine gstep_bin rfl (wanted0 rfl) _ _ _ _ _ rfl _ _ (eval_at 85 3 _ (by kernel_rfl) (show 85 < 176 by decide) (hF 3 (by decide))) (eval_at 91 9 _ (by kernel_rfl) (show 91 < 176 by decide) (hF 9 (by decide))) _ (run_neS w5 z _ _) ?_
              simp only [putAll, Act.put, List.setIfInBounds_toArray, List.set_cons_succ, List.set_cons_zero]
              have b5 := (HCZ.out w5 hR).1
              have HR5 := Lib.hid (HR2.out.low b5)
              have N5 := Lib.hid ((b5.block ab (Array.getElem?_eq_some_iff.1 N2.out).1).trans N2.out)
              have HT5 := Lib.hid (HT2.out.below b5)
              replace b5 := b2.trans (b5.mono b2.size)
              clear hF hR ho9 HCZ HMK HZ hgk HR2 N2 HT2 b2
              go_wp2_with fail
              go_roundw
              case rel => exact ⟨i + 1, by omega, by go_num, HR5, N5, HT5, b5⟩
              case measure => simp [intOf]; omega
          · have hlk2 : decide ((i : Int) < (KS.length : Int)) = false := decide_eq_false (by omega)
            have c2 : wr.cell? ⟨ab, 2, none⟩ = some (.int .i64 ao) := by simp [World.cell?, N2.out]
            have HOW := Lib.hid (ownT_any tb mb (k + 2) L'.length T' L' (o : Int) wr HT2.out.tree HT2.out.rep (by omega))
            go_wp2_with fail
            refine HOW.out.mono ?_
            rintro e w16 ⟨v16, rfl, hr16, b16⟩
            obtain ⟨OS, hOS⟩ : ∃ OS, OS = (if (o : Int) = 0 then [] else ownL L' (o : Int)) := ⟨_, rfl⟩
            rw [← hOS] at hr16
            have HOS := Lib.hid hOS
            obtain ⟨a16, c16, rfl, ha16⟩ := row_formL hr16
            have HR16 := Lib.hid (show SRow w16 wr.heap.size _ OS from hr16)
            have HA16 := Lib.hid ha16
            have N16 := Lib.hid ((b16.block ab (Array.getElem?_eq_some_iff.1 N2.out).1).trans N2.out)
            have HT16 := Lib.hid (HT2.out.below b16)
            replace b16 := b2.trans (b16.mono b2.size)
            have hmc := HT16.out.mod.cell
            have hosl : OS.length ≤ L'.length := by
              rw [hOS]; split
              · simp
              · exact ownL_len _ _
            obtain ⟨ow, how⟩ : ∃ ow : Nat, ow = wr.heap.size := ⟨_, rfl⟩
            rw [← how] at HR16
            clear hr16 hOS ha16 HR2 N2 HT2 b2 c2 HOW how hlk hlk2 hi HKR HKS
            go_wp2_with fail
            go_loopw [14, 104] (fun nv iv wx => ∃ i : Nat, i ≤ L'.length ∧ iv = .int .i64 i ∧ nv = .int .i64 ((if (o : Int) = 0 then 0 else (ownL (L'.take i) (o : Int)).length : Nat) : Int) ∧ Hid (SRow wx ow (.slice a16 OS.length c16) OS) ∧ Hid (wx.heap[ab]? = some (.cells #[.int .i64 ak, .int .i64 av, .int .i64 ao, .slice fa ap.length fcap, .string ar, .string ad, .bool asr] 31 (0, 0))) ∧ Hid (Two w.heap.size (j + 1) wx tb mb (k + 2) mp g' cap' T' L') ∧ Below w.heap.size w wx) (fun _ iv _ => L'.length - (intOf iv).toNat)
            case atStart => exact ⟨0, by omega, rfl, by split <;> rfl, HR16, N16, HT16, b16⟩
            case round =>
              obtain ⟨i, hi, rfl, rfl, HR2, N2, HT2, b2⟩ := hrel
              clear HR16 N16 HT16 b16 hmc
              obtain ⟨nn, hnn⟩ : ∃ nn : Nat, nn = (if (o : Int) = 0 then 0 else (ownL (L'.take i) (o : Int)).length) := ⟨_, rfl⟩
              rw [← hnn]
              have HNN := Lib.hid hnn
              have hnl : nn ≤ L'.length := by
                rw [hnn]; split
                · omega
                · have := ownL_len (L'.take i) (o : Int); rw [List.length_take] at this; omega
              clear hnn
              by_cases hlk : i < L'.length
              · have hlk2 : decide ((i : Int) < (L'.length : Int)) = true := by simp; omega
                have t3 : IntKind.i64.wrap ((i : Int) + 1) = (i : Int) + 1 := IntWalk.i64_in _ (by omega)
                have t4 : IntKind.i64.wrap ((nn : Int) + 1) = (nn : Int) + 1 := IntWalk.i64_in _ (by omega)
                have hi0 : (0 : Int) ≤ (i : Int) := by omega
                have hii : (i : Int) < (L'.length : Int) := by omega
                obtain ⟨⟨p, n⟩, he⟩ : ∃ e, L'[i]? = some e := ⟨L'[i], by simp [hlk]⟩
                have HLD := Lib.hid (run_loadE HT2.out.mod he)
                obtain ⟨w17, hst, E17, b17⟩ := newE wr (p, n)
                have HST := Lib.hid hst
                have N17 := Lib.hid ((b17.block ab (Array.getElem?_eq_some_iff.1 N2.out).1).trans N2.out)
                have HT17 := Lib.hid (HT2.out.below b17)
                have HR17 := Lib.hid (HR2.out.low b17)
                have hab17 : ab < wr.heap.size := (Array.getElem?_eq_some_iff.1 N2.out).1
                replace b17 := b2.trans (b17.mono b2.size)
                obtain ⟨x0, x1, x2, x3, x4, x5, x6, x7⟩ := E17.cells
                have c2 : w17.cell? ⟨ab, 2, none⟩ = some (.int .i64 ao) := by simp [World.cell?, N17.out]
                unfold meA at HLD HST
                simp only at HLD HST x0 x1 x2 x3 x4 x5 x6 x7
                have HE := Lib.hid he
                clear he hst N2 HT2 HR2 b2 E17
                by_cases hm : n.owner = (o : Int)
                · have e1 : (n.owner == (o : Int)) = true := by simpa using hm
                  by_cases h0 : (o : Int) = 0
                  · have e2 : ((o : Int) != 0) = false := by simpa using h0
                    have HN2 : Hid ((nn : Int) = ((if (o : Int) = 0 then 0 else (ownL (L'.take (i + 1)) (o : Int)).length : Nat) : Int)) := Lib.hid (by rw [HNN.out, if_pos h0, if_pos h0])
                    clear h0 hm
                    go_upto_region 28 with (first | (refine wpList_load_run HLD.out rfl rfl rfl ?_) | (refine wpList_store_run HST.out rfl rfl rfl rfl ?_))
                    go_wp2_with fail
                    go_roundw
                    case rel => exact ⟨i + 1, by omega, by go_num, by rw [← HN2.out], HR17, N17, HT17, b17⟩
                    case measure => simp [intOf]; omega
                  · have e2 : ((o : Int) != 0) = true := by simpa using h0
                    have hOE := HOS.out
                    rw [if_neg h0] at hOE
                    have hNE := HNN.out
                    rw [if_neg h0] at hNE
                    have hat := ownL_at L' (o : Int) i (p, n) HE.out e1
                    rw [← hOE, ← hNE] at hat
                    have hnl2 : nn < OS.length := (List.getElem?_eq_some_iff.1 hat).1
                    have e3 : decide ((OS.length : Int) ≤ (nn : Int)) = false := by simp; omega
                    obtain ⟨gk, rfl⟩ := HA16.out (by omega)
                    have hcz := HR17.out.at hnl2 hat
                    simp only at hcz
                    have hn0 : (0 : Int) ≤ (nn : Int) := by omega
                    have hni : (nn : Int) < (OS.length : Int) := by omega
                    have HN2 : Hid (((nn : Int) + 1) = ((if (o : Int) = 0 then 0 else (ownL (L'.take (i + 1)) (o : Int)).length : Nat) : Int)) := Lib.hid (by
                      rw [if_neg h0, ownL_succ L' (o : Int) i (p, n) HE.out, e1, if_pos rfl, List.length_append, ← hNE]; simp)
                    clear h0 hm hat hOE hNE
                    go_upto_region 28 with (first | (refine wpList_load_run HLD.out rfl rfl rfl ?_) | (refine wpList_store_run HST.out rfl rfl rfl rfl ?_))
                    go_upto_region 29 with fail
                    go_quiet (fail)
                    have b18 := drewN_below w17 nq
                    have HR18 := Lib.hid (HR17.out.low b18)
                    have N18 := Lib.hid ((b18.block ab (Array.getElem?_eq_some_iff.1 N17.out).1).trans N17.out)
                    have HT18 := Lib.hid (HT17.out.below b18)
                    replace b18 := b17.trans (b18.mono b17.size)
                    obtain ⟨w18, hw18⟩ : ∃ w18, w18 = w17.drewN nq := ⟨_, rfl⟩
                    rw [← hw18] at b18 HR18 N18 HT18 ⊢
                    clear hw18 hcz x0 x1 x2 x3 x4 x5 x6 x7 c2 HR17 N17 HT17 b17
                    go_wp2_with fail
                    go_roundw
                    case rel => exact ⟨i + 1, by omega, by go_num, by rw [← HN2.out], HR18, N18, HT18, b18⟩
                    case measure => simp [intOf]; omega
                · have e1 : (n.owner == (o : Int)) = false := by simpa using hm
                  have HN2 : Hid ((nn : Int) = ((if (o : Int) = 0 then 0 else (ownL (L'.take (i + 1)) (o : Int)).length : Nat) : Int)) := Lib.hid (by
                    rw [HNN.out, ownL_succ L' (o : Int) i (p, n) HE.out]
                    simp only [e1]
                    simp)
                  clear hm
                  go_upto_region 28 with (first | (refine wpList_load_run HLD.out rfl rfl rfl ?_) | (refine wpList_store_run HST.out rfl rfl rfl rfl ?_))
                  go_wp2_with fail
                  go_roundw
                  case rel => exact ⟨i + 1, by omega, by go_num, by rw [← HN2.out], HR17, N17, HT17, b17⟩
                  case measure => simp [intOf]; omega
              · have hlk2 : decide ((i : Int) < (L'.length : Int)) = false := by simp; omega
                have hnO : nn = OS.length := by
                  rw [HNN.out, HOS.out, List.take_of_length_le (by omega)]
                  split <;> rfl
                subst hnO
                clear hnl
                go_wp2_with fail
                go_roundw
                case rel => exact ⟨j + 1, k + 2, T', g', cap', L', by omega, by omega, by go_num, HT2, HK9, by omega, b2⟩
                case measure => simp [intOf]; omega
    · have hlt2 : decide ((j : Int) < (qs.length : Int)) = false := by simp; omega
      have HG := Lib.hid (get_nilT wr)
      unfold ndV at HG
      simp only [Nd.zero] at HG
      have hll := HKP.out.2.2.len HTW.out.rep
      go_wp2_with fail
      refine HG.out.mono ?_
      rintro e w5 ⟨rfl, b5⟩
      obtain ⟨w6, hst, _, b6, _⟩ := newN w5 Nd.zero
      simp only [ndV, Nd.zero] at hst
      have HST := Lib.hid hst
      replace b6 := b5.trans (b6.mono b5.size)
      have HT6 := Lib.hid (HTW.out.below b6)
      have HL6 := Lib.hid (len_nilT w6)
      have HP6 := Lib.hid (paths_nilT w6)
      replace b6 := bk.trans (b6.mono bk.size)
      clear hst b5 HG HTW bk
      go_upto_region 38 with (refine wpList_store_run HST.out rfl rfl rfl rfl ?_)
      go_wp2_with fail
      refine HL6.out.mono ?_
      rintro e w7 ⟨rfl, hw⟩
      obtain rfl := hw.symm
      go_wp2_with fail
      refine HP6.out.mono ?_
      rintro e w8 ⟨pa, pc, rfl, b8⟩
      have HT8 := Lib.hid (HT6.out.below b8)
      replace b8 := b6.trans (b8.mono b6.size)
      have HS8 := Lib.hid (same_nils w8)
      clear HT6 b6 HP6 HL6
      go_wp2_with fail
      refine HS8.out.mono ?_
      rintro e w9 ⟨rfl, b9⟩
      have HT9 := Lib.hid (HT8.out.below b9)
      replace b9 := b8.trans (b9.mono b8.size)
      have HS9 := Lib.hid (same_nilT tb mb k L.length T w9 HT9.out.tree (by omega))
      clear HT8 b8 HS8
      go_wp2_with fail
      refine HS9.out.mono ?_
      rintro e w10 ⟨rfl, b10⟩
      replace b10 := b9.trans (b10.mono b9.size)
      have HC10 := Lib.hid (clone_nilT w10)
      clear HT9 b9 HS9
      go_wp2_with fail
      refine HC10.out.mono ?_
      rintro e w11 ⟨t1, m1, rfl, HT11, b11⟩
      have HN11 := Lib.hid (new_any w11)
      go_wp2_with fail
      refine HN11.out.mono ?_
      rintro e w12 ⟨t2, m2, rfl, HT12, b12, _, _⟩
      have HS12 := Lib.hid (same_any t1 m1 1 t2 m2 1 1 rootT w12 (HT11.below b12) HT12 (by omega))
      replace b12 := (b10.trans (b11.mono b10.size)).trans (b12.mono (by have := b10.size; have := b11.size; omega))
      clear HT11 HT12 b11 b10 HC10 HN11
      go_wp2_with fail
      refine HS12.out.mono ?_
      rintro e w13 ⟨rfl, b13⟩
      replace b13 := b12.trans (b13.mono b12.size)
      go_wp2_with fail
      go_ret
      exact ⟨rfl, b13⟩

theorem own : ownKnob Tryz.prog.godebug = none := by kernel_rfl
theorem laidOut : laidOutB Tryz.prog = true := by kernel_rfl

theorem contract (H : Type) (enc : TypeId × Value → H) (W : World) (base : Nat) (args : Array Value) (ds gs : List (DataW H)) (before : List MemPlace)
    (hval : ∀ (j : Nat) t v, Tryz.f3.params[j]? = some t → args[j]? = some v → Value.okWide Tryz.prog W .any base t v)
    (hW : DataW.Whole enc Tryz.prog Tryz.f3.params.toList Rows.treeActsSpec.vars false W args.toList ds gs before) (hL : laidMetH Tryz.prog Rows.treeActsRow.laid W) :
    Calls Tryz.prog 3 args W fun e W' => ∃ v, e = .returned v ∧ Rows.treeActsSpec.post enc Tryz.prog Tryz.f3 false true false false W args v W' := by
  have hW' := hW
  obtain ⟨p, q, hA0, hV, rfl, hfz, hnd⟩ := hW
  have hA : DataW.TrodAll enc Tryz.prog W 0 (fun _ => true) true Tryz.f3.params.toList args.toList ds p := hA0
  rw [Tryz.params3] at hA hval
  obtain ⟨v0, vs0, d0, ds0, p0, q0, hargs, rfl, rfl, h0, r0⟩ := trodAll_cons hA
  obtain ⟨rfl, rfl, rfl⟩ := trodAll_nil r0
  obtain rfl : args = #[v0] := by cases args; simp_all
  obtain ⟨rfl, rfl⟩ := trodVars_none hV
  have k0 := h0
  have lt0 : ∀ x ∈ p0, x.block < W.heap.size := by obtain ⟨m, hm⟩ := k0; exact DataW.trod_lt m _ _ _ hm
  obtain ⟨z0, w0⟩ := acts9_of (hval 0 22 v0 rfl rfl) h0
  clear hA0
  refine (walk v0 z0 W w0).mono fun e W' ⟨he, bel⟩ => ?_
  subst he
  exact ⟨_, rfl, _, _, _, [], _, [], hW', trodAll_mk1 (shut_bool Tryz.underlying4 _), (trodAll_cons_mk (Below.trod laidOut (by kernel_rfl) (of_decide_eq_true (by kernel_rfl)) k0 bel lt0) trodAll_mk0), rfl, bel.frame _, fun h => by cases h⟩

theorem laid_met (os : Os) : laidMet Tryz.prog Rows.treeActsRow.laid ((World.laidAll Tryz.prog os Rows.treeActsRow.laid).forCall (fun _ _ => 0) ⟨#[], #[.slice none 0 0], []⟩).memory :=
  laidMet_laidAll _ (by kernel_rfl) (by kernel_rfl)
theorem reads (os : Os) {H : Type} (enc : TypeId × Value → H) : ∃ places, DataW.whole enc Tryz.prog ((World.laidAll Tryz.prog os Rows.treeActsRow.laid).forCall (fun _ _ => 0) ⟨#[], #[.slice none 0 0], []⟩).memory Tryz.f3.params.toList Rows.treeActsSpec.vars false #[Value.slice none 0 0].toList 8 = some ([.nil], [], places) :=
  ⟨[], by kernel_rfl⟩

set_option maxRecDepth 100000 in
theorem lifted (os : Os) (started : os.Started) (H : Type) (enc : TypeId × Value → H) (F : Stop.Interp) :
    ReturnsInHanded {} Tryz.checked os 3 .any ((OpenSpec.ofChange Rows.treeActsSpec).preRow enc Tryz.prog Tryz.f3 Rows.treeActsRow.domain false Rows.treeActsRow.laid) (((OpenSpec.ofChange Rows.treeActsSpec).at F).post enc Tryz.prog Tryz.f3 false true false false) := by
  obtain ⟨places, hx⟩ := reads os enc
  refine returnsInHanded_of_row (C := Tryz.checked) (s := OpenSpec.ofChange Rows.treeActsSpec) own started (by kernel_rfl) Tryz.func3
    (witness_zip (enc := enc) (C := Tryz.checked) false (World.laidAll Tryz.prog os Rows.treeActsRow.laid) #[.slice none 0 0] (World.laidAll_os _ _ _) (World.shaped_of_ZipB (by kernel_rfl) (by kernel_rfl)) (by kernel_rfl)
      (OpenSpec.preRow_of_cond 8 hx (by kernel_rfl) (fun k hk => by cases hk) (by kernel_rfl) (laid_met os))) ?_
  intro W base args ds gs before hval hW _ _ _ hL _ _
  exact contract H enc W base args ds gs before hval hW hL

theorem said : Rows.TreeActsSaid :=
  OpenClaim.holds_of_cond 3 Tryz.f3 rfl rfl rfl rfl rfl rfl rfl ⟨rfl, rfl, rfl, rfl, rfl⟩ rfl rfl rfl rfl rfl (by kernel_rfl) Tryz.func3 (by kernel_rfl)
    (of_decide_eq_true (by kernel_rfl)) (by unfold Func.isWrapper; first | (rw [if_pos (by decide +kernel)]; kernel_rfl) | (rw [if_neg (by decide +kernel)]; exact ⟨rfl, rfl⟩))
    (fun os started H enc _ F => by rw [OpenClaim.pre_eq_preRow]; exact lifted os started H enc F)

theorem plain (f : FuncId) (fn : Func) (hf : Tryz.pinned.checked.prog.funcNamed "orchard/orchardlaw09.TreeActs" = some f) (hfn : Tryz.pinned.checked.prog.funcs[f]? = some fn) :
    true = Tryz.pinned.checked.prog.looks [] ∧ ∀ (j : Nat) t, fn.params[j]? = some t → Tryz.pinned.checked.prog.wantsStandIn t = false := by
  obtain rfl : f = 3 := Option.some.inj ((show Tryz.prog.funcNamed "orchard/orchardlaw09.TreeActs" = some 3 by kernel_rfl).symm.trans hf) |>.symm
  obtain rfl : fn = Tryz.f3 := (Option.some.inj (Tryz.func3.symm.trans hfn)).symm
  refine ⟨by kernel_rfl, fun j t ht => ?_⟩
  rw [Tryz.params3] at ht
  have hm := Array.mem_of_getElem? ht
  simp at hm
  subst hm
  exact (show Tryz.prog.wantsStandIn 22 = false by kernel_rfl)

theorem card : Rows.TreeActsCardSaid :=
  Claim7.holds_tied_plain_at .later [] _ _ _ _ said (fun _ h => by cases h) (by kernel_rfl) (fun _ h => by cases h) treeActs_row_tie rfl ⟨rfl, rfl⟩ (by kernel_rfl) rfl plain (by kernel_rfl)
end Go.Proofs.YtglgnelolcmaoaaGreatDoor.treeActs
