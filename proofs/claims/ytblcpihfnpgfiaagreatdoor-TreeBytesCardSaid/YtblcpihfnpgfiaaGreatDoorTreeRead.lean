/- Read of a tree. No conditions beyond those in each statement. -/
import Derived.Test.YtblcpihfnpgfiaaGreatDoorTreeFits
import Derived.Deep.DeepCutAuto
namespace Go.Proofs.YtblcpihfnpgfiaaGreatDoor
open Go.RowKit Go.Maps
set_option linter.unusedVariables false
set_option linter.unusedSimpArgs false
set_option maxRecDepth 100000

theorem TrW.grown {w w' : World} {tb mb k c r : Nat} {T : List UInt8 → Option Nd} (h : TrW w tb mb k c T) (hg : w.grownBy w' (some r)) (h1 : tb ≠ r) (h2 : mb ≠ r) : TrW w' tb mb k c T :=
  ⟨(hg.block tb h.lt (fun e => h1 (Option.some.inj e))).trans h.tree, h.map.keep0 (hg.block mb h.map.lt (fun e => h2 (Option.some.inj e)))⟩
theorem only_map {a w x : World} {rb mb : Nat} (h : a.grownBy w (some rb)) (k : w.grownBy x (some mb)) (hm : a.heap.size ≤ mb) : a.grownBy x (some rb) :=
  ⟨k.os.trans h.os, k.tape.trans h.tape, k.output.trans h.output, Nat.le_trans h.size k.size, fun i hi hne => (k.block i (Nat.lt_of_lt_of_le hi h.size) (fun e => by have := Option.some.inj e; omega)).trans (h.block i hi hne)⟩
/-- What Read makes of what its loop leaves. -/
def endT (r : Trs) : Trs :=
  let s := if r.L.length = 0 then none else r.st
  if okF s then ⟨r.T, r.L, s⟩ else ⟨rootT, [([47], Nd.zero)], s⟩
theorem readT_end (st : RS) : readT st = endT (rdN (numF 6 60 st).1.toNat (fun _ => none) [] (numF 6 60 st).2) := rfl
theorem endT_none {r : Trs} (h : r.L.length = 0) : endT r = ⟨rootT, [([47], Nd.zero)], none⟩ := by unfold endT; simp only; rw [if_pos h]; rfl
theorem endT_bad {r : Trs} (h : ¬ r.L.length = 0) (hs : okF r.st = false) : endT r = ⟨rootT, [([47], Nd.zero)], r.st⟩ := by unfold endT; simp only; rw [if_neg h, hs]; rfl
theorem endT_ok {r : Trs} (h : ¬ r.L.length = 0) (hs : okF r.st = true) : endT r = r := by unfold endT; simp only; rw [if_neg h, hs]; rfl
theorem rdN_good {n : Nat} {T : List UInt8 → Option Nd} {L : List Me} {st : RS} (h : goodK T L (rdNd st).1 = true) : rdN (n + 1) T L st = rdN n (updN T (rdNd st).1.1 (some (rdNd st).1.2)) (L ++ [(rdNd st).1]) (rdNd st).2 := by
  rw [rdN, if_pos h]
theorem rdN_bad {n : Nat} {T : List UInt8 → Option Nd} {L : List Me} {st : RS} (h : goodK T L (rdNd st).1 = false) : rdN (n + 1) T L st = ⟨T, L, none⟩ := by
  rw [rdN, if_neg (by rw [h]; decide)]
theorem len_snoc (L : List Me) (e : Me) : (L ++ [e]).length = L.length + 1 := by simp
theorem lastK_snoc (L : List Me) (e : Me) : lastK (L ++ [e]) = e.1 := by unfold lastK; simp
theorem new_isNone {T : List UInt8 → Option Nd} {L : List Me} {e : Me} (h : TrOk T L) (hg : goodK T L e = true) : T e.1 = none := by
  have hall := less_last h.rep.sorted (goodK_parts hg).1
  cases hT : T e.1 with
  | none => rfl
  | some n => exact absurd rfl (ltL_ne (hall (e.1, n) ((h.rep.mem _ _).1 hT)))
theorem leq3 (a b : List UInt8) : (Op.bytesLess (bs a).toList (bs b).toList = true ∧ ¬ b < a) ∨ (Op.bytesLess (bs a).toList (bs b).toList = false ∧ ((bs a).toList == (bs b).toList) = true ∧ ¬ b < a) ∨ (Op.bytesLess (bs a).toList (bs b).toList = false ∧ ((bs a).toList == (bs b).toList) = false ∧ b < a) := by
  rw [Lib.toList_data, Lib.toList_data, bs_list, bs_list, bytesLess_eq]
  by_cases h1 : a < b
  · exact .inl ⟨by simpa using h1, fun h2 => List.lt_irrefl a (ltL_trans h1 h2)⟩
  · by_cases h2 : a = b
    · exact .inr (.inl ⟨by simpa using h1, by simpa using h2, fun h3 => ltL_ne h3 h2.symm⟩)
    · exact .inr (.inr ⟨by simpa using h1, by simpa using h2, ltL_of h1 (fun e => h2 e.symm)⟩)
theorem leq_not {a b : List UInt8} (h : ¬ b < a) : Op.bytesLess b a = false := by rw [bytesLess_eq]; simpa using h
set_option maxHeartbeats 16000000 in
theorem tread_any (rb : Nat) (st : RS) (w : World) (h : Rs w rb st) :
    Calls Tryz.prog 25 #[.pointer (some ⟨rb, 0, none⟩)] w fun e w' => ∃ tb mb k, e = .returned (.pointer (some ⟨tb, 0, none⟩)) ∧ TrW w' tb mb k (readT st).L.length (readT st).T ∧ Rs w' rb (readT st).st ∧ w.grownBy w' (some rb) ∧ w.heap.size ≤ tb ∧ w.heap.size ≤ mb ∧ k ≤ 61 := by
  have hrb := h.lt
  have hmm := @run_makeMap Tryz.prog
  have M0 := MapN.new w
  have b0 := (Below.refl _ w).alloc (Nat.le_refl _) (.map #[] 0)
  have b1 := b0.alloc b0.size (.cells #[.map (some w.heap.size)] 70)
  have M1 := M0.below ((Below.refl _ (w.alloc (.map #[] 0))).alloc (Nat.le_refl _) (.cells #[.map (some w.heap.size)] 70))
  have HT1 : TrW ((w.alloc (.map #[] 0)).alloc (.cells #[.map (some w.heap.size)] 70)) (w.alloc (.map #[] 0)).heap.size w.heap.size 0 0 (fun _ => none) := ⟨World.alloc_heap_new _ _, M1⟩
  have hsz : (w.alloc (.map #[] 0)).heap.size = w.heap.size + 1 := by simp
  rw [hsz] at HT1
  have HR1 := h.below b1
  obtain ⟨n, s0, hn⟩ : ∃ a b, numF 6 60 st = (a, b) := ⟨_, _, rfl⟩
  have hnb := numF_most st 60 (by decide)
  rw [hn] at hnb
  simp only at hnb
  obtain ⟨m, rfl⟩ := Int.eq_ofNat_of_zero_le hnb.1
  have hm60 : m ≤ 60 := by omega
  have HEND : Hid (readT st = endT (rdN m (fun _ => none) [] s0)) := Lib.hid (by rw [readT_end, hn]; rfl)
  have HNM := Lib.hid (num_rs rb 60 st _ HR1)
  rw [show max (60 : Int) 0 = 60 by decide, hn] at HNM
  have g1 : w.grownBy _ (some rb) := only_of_below b1 (some rb)
  clear hn hnb M0 M1 b0 b1 hsz
  go_enter Tryz.func25, Tryz.ntmps25
  go_wp2_with fail
  refine HNM.out.mono ?_
  rintro e w2 ⟨rfl, HR2, g2⟩
  have HT2 := HT1.grown g2 (by omega) (by omega)
  have G2 := only_trans g1 g2
  have hne1 : w.heap.size + 1 ≠ rb := by omega
  have hne2 : w.heap.size ≠ rb := by omega
  clear HT1 HR1 g1 g2 HNM
  go_wp2_with fail
  go_loopw [4, 12] (fun lv iv wr => ∃ (j k : Nat) (T : List UInt8 → Option Nd) (L : List Me) (S : RS), j ≤ m ∧ iv = .int .i64 j ∧ lv = .string (bs (lastK L)) ∧ k ≤ j ∧ L.length ≤ j ∧ Hid (TrW wr (w.heap.size + 1) w.heap.size k L.length T) ∧ Hid (Rs wr rb S) ∧ Hid (TrOk T L) ∧ Hid (readT st = endT (rdN (m - j) T L S)) ∧ Hid (w.grownBy wr (some rb))) (fun _ iv _ => m - (intOf iv).toNat)
  case atStart => exact ⟨0, 0, _, [], s0, by omega, rfl, rfl, by omega, by simp, Lib.hid HT2, Lib.hid HR2, Lib.hid TrOk.empty, HEND, Lib.hid G2⟩
  case round =>
    obtain ⟨j, k, T, L, S, hj, rfl, rfl, hkj, hLj, HT, HR, HO, HEQ, HG⟩ := hrel
    clear HT2 HR2 G2 HEND
    by_cases hlt : j < m
    · have hlt2 : decide ((j : Int) < (m : Int)) = true := by simp; omega
      have t2 : IntKind.i64.wrap ((j : Int) + 1) = (j : Int) + 1 := IntWalk.i64_in _ (by omega)
      have HRN := Lib.hid (readnode_any rb S wr HR.out)
      have hok := rdNd_ok S
      obtain ⟨⟨⟨s, nd⟩, S2⟩, hrd⟩ : ∃ X, rdNd S = X := ⟨_, rfl⟩
      rw [hrd] at HRN hok
      have HOK := Lib.hid hok
      have hsl : s.length ≤ 60 := hok.2
      have hdl : nd.data.size ≤ 60 := hok.1.data
      obtain ⟨q, hq⟩ : ∃ q, m - j = q + 1 := ⟨m - j - 1, by omega⟩
      rw [hq] at HEQ
      have HRD := Lib.hid hrd
      simp only at HRN
      unfold ndV at HRN
      clear hok hrd
      go_wp2_with fail
      refine HRN.out.mono ?_
      rintro e w3 ⟨rfl, R3, g3⟩
      have T3 := HT.out.grown g3 hne1 hne2
      have G3 := only_trans HG.out g3
      obtain ⟨w4, hst, N4, b4, hsz4⟩ := newN w3 nd
      unfold ndV at hst
      have HST := Lib.hid hst
      have HLG := Lib.hid (run_loadN N4)
      unfold ndV at HLG
      have R4 := R3.below b4
      have T4 := T3.below b4
      have G4 := only_low G3 b4 G3.size
      have hnw : w.heap.size ≤ w3.heap.size := G3.size
      have hnt : w.heap.size + 1 < w3.heap.size := T3.lt
      clear hst R3 T3 G3 g3 HRN
      have hc3 := leq3 s (lastK L)
      rcases hc3 with hc3 | hc3 | ⟨e1, e2, hbl⟩
      · obtain ⟨e1, hbl⟩ := hc3
        have HEQ : Hid (readT st = endT ⟨T, L, none⟩) := Lib.hid (by
          have h9 : goodK T L (rdNd S).1 = false := by rw [HRD.out]; unfold goodK; simp only; rw [leq_not hbl]; rfl
          rw [HEQ.out, rdN_bad h9])
        go_wp2_with (first | (refine wpList_store_run HST.out rfl rfl rfl rfl ?_) | (refine wpList_load_g HLG.out rfl rfl (by rfl) ?_))
        refine (fail_rs rb _ _ R4).mono ?_
        rintro e w9 ⟨rfl, HR9, g9⟩
        have HT9 := T4.grown g9 hne1 hne2
        replace g9 := only_trans G4 g9
        clear R4 T4 G4 N4 b4 HST HLG HT HR HG HO HOK
        by_cases hL0 : L.length = 0
        · have HE := Lib.hid (HEQ.out.trans (endT_none hL0))
          have hlz : (((0 : Nat) : Int) == 0) = true := by decide
          have hl0 : L.length = 0 := hL0
          rw [hL0] at HT9
          have HLN := Lib.hid (len_any (w.heap.size + 1) w.heap.size k 0 T w9 HT9)
          clear hL0 hlz hl0
          go_wp2_with fail
          refine HLN.out.mono ?_
          rintro e w10 ⟨rfl, hw⟩
          obtain rfl := hw.symm
          go_wp2_with fail
          refine (fail_rs rb _ _ HR9).mono ?_
          rintro e w11 ⟨rfl, HR11, g11⟩
          replace g9 := only_trans g9 g11
          have HOK := Lib.hid (ok_rs rb none w11 HR11)
          unfold okF at HOK
          go_wp2_with fail
          refine HOK.out.mono ?_
          rintro e w12 ⟨rfl, hw⟩
          obtain rfl := hw
          have HNW := Lib.hid (new_any w11)
          go_wp2_with fail
          refine HNW.out.mono ?_
          rintro e w13 ⟨tb', mb', rfl, HT13, b13, ht, hm⟩
          have HR13 := HR11.below b13
          go_wp2_with fail
          go_ret
          rw [HE.out]
          exact ⟨tb', mb', 1, rfl, HT13, HR13, only_low g9 b13 g9.size, by have := g9.size; omega, by have := g9.size; omega, by omega⟩
        · have hS : okF (none : RS) = false := rfl

          have HE := Lib.hid (HEQ.out.trans (endT_bad (r := ⟨T, L, none⟩) hL0 hS))
          have hlz : ((L.length : Int) == 0) = false := by simpa using hL0
          have HLN := Lib.hid (len_any (w.heap.size + 1) w.heap.size k L.length T w9 HT9)
          have HOK := Lib.hid (ok_rs rb none w9 HR9)
          rw [hS] at HOK
          have HL0 := Lib.hid hL0
          clear hL0 hS
          go_wp2_with fail
          refine HLN.out.mono ?_
          rintro e w10 ⟨rfl, hw⟩
          obtain rfl := hw.symm
          go_wp2_with fail
          refine HOK.out.mono ?_
          rintro e w12 ⟨rfl, hw⟩
          obtain rfl := hw
          have HNW := Lib.hid (new_any w9)
          go_wp2_with fail
          refine HNW.out.mono ?_
          rintro e w13 ⟨tb', mb', rfl, HT13, b13, ht, hm⟩
          have HR13 := HR9.below b13
          go_wp2_with fail
          go_ret
          rw [HE.out]
          exact ⟨tb', mb', 1, rfl, HT13, HR13, only_low g9 b13 g9.size, by have := g9.size; omega, by have := g9.size; omega, by omega⟩
      · obtain ⟨e1, e2, hbl⟩ := hc3
        have HEQ : Hid (readT st = endT ⟨T, L, none⟩) := Lib.hid (by
          have h9 : goodK T L (rdNd S).1 = false := by rw [HRD.out]; unfold goodK; simp only; rw [leq_not hbl]; rfl
          rw [HEQ.out, rdN_bad h9])
        go_wp2_with (first | (refine wpList_store_run HST.out rfl rfl rfl rfl ?_) | (refine wpList_load_g HLG.out rfl rfl (by rfl) ?_))
        refine (fail_rs rb _ _ R4).mono ?_
        rintro e w9 ⟨rfl, HR9, g9⟩
        have HT9 := T4.grown g9 hne1 hne2
        replace g9 := only_trans G4 g9
        clear R4 T4 G4 N4 b4 HST HLG HT HR HG HO HOK
        by_cases hL0 : L.length = 0
        · have HE := Lib.hid (HEQ.out.trans (endT_none hL0))
          have hlz : (((0 : Nat) : Int) == 0) = true := by decide
          have hl0 : L.length = 0 := hL0
          rw [hL0] at HT9
          have HLN := Lib.hid (len_any (w.heap.size + 1) w.heap.size k 0 T w9 HT9)
          clear hL0 hlz hl0
          go_wp2_with fail
          refine HLN.out.mono ?_
          rintro e w10 ⟨rfl, hw⟩
          obtain rfl := hw.symm
          go_wp2_with fail
          refine (fail_rs rb _ _ HR9).mono ?_
          rintro e w11 ⟨rfl, HR11, g11⟩
          replace g9 := only_trans g9 g11
          have HOK := Lib.hid (ok_rs rb none w11 HR11)
          unfold okF at HOK
          go_wp2_with fail
          refine HOK.out.mono ?_
          rintro e w12 ⟨rfl, hw⟩
          obtain rfl := hw
          have HNW := Lib.hid (new_any w11)
          go_wp2_with fail
          refine HNW.out.mono ?_
          rintro e w13 ⟨tb', mb', rfl, HT13, b13, ht, hm⟩
          have HR13 := HR11.below b13
          go_wp2_with fail
          go_ret
          rw [HE.out]
          exact ⟨tb', mb', 1, rfl, HT13, HR13, only_low g9 b13 g9.size, by have := g9.size; omega, by have := g9.size; omega, by omega⟩
        · have hS : okF (none : RS) = false := rfl

          have HE := Lib.hid (HEQ.out.trans (endT_bad (r := ⟨T, L, none⟩) hL0 hS))
          have hlz : ((L.length : Int) == 0) = false := by simpa using hL0
          have HLN := Lib.hid (len_any (w.heap.size + 1) w.heap.size k L.length T w9 HT9)
          have HOK := Lib.hid (ok_rs rb none w9 HR9)
          rw [hS] at HOK
          have HL0 := Lib.hid hL0
          clear hL0 hS
          go_wp2_with fail
          refine HLN.out.mono ?_
          rintro e w10 ⟨rfl, hw⟩
          obtain rfl := hw.symm
          go_wp2_with fail
          refine HOK.out.mono ?_
          rintro e w12 ⟨rfl, hw⟩
          obtain rfl := hw
          have HNW := Lib.hid (new_any w9)
          go_wp2_with fail
          refine HNW.out.mono ?_
          rintro e w13 ⟨tb', mb', rfl, HT13, b13, ht, hm⟩
          have HR13 := HR9.below b13
          go_wp2_with fail
          go_ret
          rw [HE.out]
          exact ⟨tb', mb', 1, rfl, HT13, HR13, only_low g9 b13 g9.size, by have := g9.size; omega, by have := g9.size; omega, by omega⟩
      · have HB := Lib.hid (show Op.bytesLess (lastK L) s = true from by rw [bytesLess_eq]; simpa using hbl)
        clear hbl
        have HFI := Lib.hid (fits_any (w.heap.size + 1) w.heap.size k L.length T s nd w4 T4 (by omega) (by omega))
        obtain ⟨fb, hfb⟩ : ∃ fb, fb = fitsT T s nd := ⟨_, rfl⟩
        rw [← hfb] at HFI
        unfold ndV at HFI
        cases fb with
        | false =>
          have HEQ : Hid (readT st = endT ⟨T, L, none⟩) := Lib.hid (by
            have h9 : goodK T L (rdNd S).1 = false := by rw [HRD.out]; unfold goodK; simp only; rw [← hfb, Bool.and_false]
            rw [HEQ.out, rdN_bad h9])
          clear hfb
          go_wp2_with (first | (refine wpList_store_run HST.out rfl rfl rfl rfl ?_) | (refine wpList_load_g HLG.out rfl rfl (by rfl) ?_))
          refine HFI.out.mono ?_
          rintro e w5 ⟨rfl, b5⟩
          have R5 := R4.below b5
          have T5 := T4.below b5
          have G5 := only_low G4 b5 G4.size
          clear R4 T4 G4 HST HLG HT HR HG HO HOK HFI
          go_wp2_with fail
          refine (fail_rs rb _ _ R5).mono ?_
          rintro e w9 ⟨rfl, HR9, g9⟩
          have HT9 := T5.grown g9 hne1 hne2
          replace g9 := only_trans G5 g9
          clear R5 T5 G5 N4 b4 b5
          by_cases hL0 : L.length = 0
          · have HE := Lib.hid (HEQ.out.trans (endT_none hL0))
            have hlz : (((0 : Nat) : Int) == 0) = true := by decide
            have hl0 : L.length = 0 := hL0
            rw [hL0] at HT9
            have HLN := Lib.hid (len_any (w.heap.size + 1) w.heap.size k 0 T w9 HT9)
            clear hL0 hlz hl0
            go_wp2_with fail
            refine HLN.out.mono ?_
            rintro e w10 ⟨rfl, hw⟩
            obtain rfl := hw.symm
            go_wp2_with fail
            refine (fail_rs rb _ _ HR9).mono ?_
            rintro e w11 ⟨rfl, HR11, g11⟩
            replace g9 := only_trans g9 g11
            have HOK := Lib.hid (ok_rs rb none w11 HR11)
            unfold okF at HOK
            go_wp2_with fail
            refine HOK.out.mono ?_
            rintro e w12 ⟨rfl, hw⟩
            obtain rfl := hw
            have HNW := Lib.hid (new_any w11)
            go_wp2_with fail
            refine HNW.out.mono ?_
            rintro e w13 ⟨tb', mb', rfl, HT13, b13, ht, hm⟩
            have HR13 := HR11.below b13
            go_wp2_with fail
            go_ret
            rw [HE.out]
            exact ⟨tb', mb', 1, rfl, HT13, HR13, only_low g9 b13 g9.size, by have := g9.size; omega, by have := g9.size; omega, by omega⟩
          · have hS : okF (none : RS) = false := rfl

            have HE := Lib.hid (HEQ.out.trans (endT_bad (r := ⟨T, L, none⟩) hL0 hS))
            have hlz : ((L.length : Int) == 0) = false := by simpa using hL0
            have HLN := Lib.hid (len_any (w.heap.size + 1) w.heap.size k L.length T w9 HT9)
            have HOK := Lib.hid (ok_rs rb none w9 HR9)
            rw [hS] at HOK
            have HL0 := Lib.hid hL0
            clear hL0 hS
            go_wp2_with fail
            refine HLN.out.mono ?_
            rintro e w10 ⟨rfl, hw⟩
            obtain rfl := hw.symm
            go_wp2_with fail
            refine HOK.out.mono ?_
            rintro e w12 ⟨rfl, hw⟩
            obtain rfl := hw
            have HNW := Lib.hid (new_any w9)
            go_wp2_with fail
            refine HNW.out.mono ?_
            rintro e w13 ⟨tb', mb', rfl, HT13, b13, ht, hm⟩
            have HR13 := HR9.below b13
            go_wp2_with fail
            go_ret
            rw [HE.out]
            exact ⟨tb', mb', 1, rfl, HT13, HR13, only_low g9 b13 g9.size, by have := g9.size; omega, by have := g9.size; omega, by omega⟩
        | true =>
          have hgk : goodK T L (rdNd S).1 = true := by rw [HRD.out]; unfold goodK; simp only; rw [← hfb, HB.out]; rfl
          have HEQ2 : Hid (readT st = endT (rdN (m - (j + 1)) (updN T s (some nd)) (L ++ [(s, nd)]) S2)) := Lib.hid (by
            rw [HEQ.out, rdN_good hgk, HRD.out, show m - (j + 1) = q by omega])
          have HTN := Lib.hid (new_isNone HO.out hgk)
          have HO2 : Hid (TrOk (updN T s (some nd)) (L ++ [(s, nd)])) := Lib.hid (by have := HO.out.step hgk (by rw [HRD.out]; exact HOK.out.1); rw [HRD.out] at this; exact this)
          rw [HRD.out] at HTN
          clear hfb hgk HEQ
          go_wp2_with (first | (refine wpList_store_run HST.out rfl rfl rfl rfl ?_) | (refine wpList_load_g HLG.out rfl rfl (by rfl) ?_))
          refine HFI.out.mono ?_
          rintro e w5 ⟨rfl, b5⟩
          have R5 := R4.below b5
          have T5 := T4.below b5
          have N5 := N4.below b5
          have G5 := only_low G4 b5 G4.size
          clear R4 T4 G4 HST HLG HT HR HG HO HOK HFI N4 b4 b5
          go_upto_region 8 with fail
          have H8d := T5.drew
          obtain ⟨hr9, H9, g9⟩ := H8d.run (by omega) s (by unfold maxLen; omega) nd
          have e9 : (if (T s).isSome then L.length else L.length + 1) = (L ++ [(s, nd)]).length := by rw [HTN.out, len_snoc]; rfl
          rw [e9] at H9
          have R9 : Rs (stoW w.heap.size s nd w5.drew) rb S2 := Rs.kept (R5.below ((Below.refl _ w5).drew)) g9 (fun e => hne2 (Option.some.inj e).symm)
          have N9 : NdB (stoW w.heap.size s nd w5.drew) w3.heap.size nd := (g9.block w3.heap.size (NdB.lt N5.drew) (fun e => by have := Option.some.inj e; omega)).trans N5.drew
          have x0 := H8d.cell
          obtain ⟨⟨c0, c1, c2, c3, c4, c5, c6⟩, _⟩ := N5.drew.cells
          have y0 := H9.cell
          obtain ⟨⟨d0, d1, d2, d3, d4, d5, d6⟩, _⟩ := N9.cells
          have G9 := only_map (only_trans G5 (only_of_below (Below.refl _ w5).drew _)) g9 (Nat.le_refl _)
          have HT9 := Lib.hid H9
          have HR9 := Lib.hid R9
          have HG9 := Lib.hid G9
          clear H9 R9 G9 N9 N5 T5 R5 G5 H8d g9
          go_region_held3 (fun w' => w'.cell? ⟨w.heap.size + 1, 0, none⟩ = some (.map (some w.heap.size)) ∧ w'.cell? ⟨w3.heap.size, 0, none⟩ = some (.string nd.data) ∧ w'.cell? ⟨w3.heap.size, 1, none⟩ = some (.int .i64 nd.ver) ∧ w'.cell? ⟨w3.heap.size, 2, none⟩ = some (.int .i64 nd.below) ∧ w'.cell? ⟨w3.heap.size, 3, none⟩ = some (.int .i64 nd.owner) ∧ w'.cell? ⟨w3.heap.size, 4, none⟩ = some (.int .i64 nd.made) ∧ w'.cell? ⟨w3.heap.size, 5, none⟩ = some (.int .i64 nd.put) ∧ w'.cell? ⟨w3.heap.size, 6, none⟩ = some (.int .i64 nd.serial)) (first | (with_reducible assumption) | (refine ⟨?_, ?_, ?_, ?_, ?_, ?_, ?_, ?_⟩ <;> with_reducible assumption) | go_keep) (fail)
          clear hr9 x0 c0 c1 c2 c3 c4 c5 c6 y0 d0 d1 d2 d3 d4 d5 d6
          go_wp2_with fail
          go_roundw
          case rel => exact ⟨j + 1, k + 1, updN T s (some nd), L ++ [(s, nd)], S2, by omega, by go_num, by rw [lastK_snoc], by omega, by rw [len_snoc]; omega, HT9, HR9, HO2, HEQ2, HG9⟩
          case measure => simp [intOf]; omega
    · obtain rfl : j = m := by omega
      have hlt2 : decide ((j : Int) < (j : Int)) = false := by simp
      have HT9 := HT.out
      have HR9 := HR.out
      have g9 := HG.out
      rw [Nat.sub_self] at HEQ
      have HEQ : Hid (readT st = endT ⟨T, L, S⟩) := HEQ
      clear HT HR HG hmm
      by_cases hL0 : L.length = 0
      · have HE := Lib.hid (HEQ.out.trans (endT_none hL0))
        have hlz : (((0 : Nat) : Int) == 0) = true := by decide
        have hl0 : L.length = 0 := hL0
        rw [hL0] at HT9
        have HLN := Lib.hid (len_any (w.heap.size + 1) w.heap.size k 0 T wr HT9)
        clear hL0 hlz hl0
        go_wp2_with fail
        refine HLN.out.mono ?_
        rintro e w10 ⟨rfl, hw⟩
        obtain rfl := hw.symm
        go_wp2_with fail
        refine (fail_rs rb _ _ HR9).mono ?_
        rintro e w11 ⟨rfl, HR11, g11⟩
        replace g9 := only_trans g9 g11
        have HOK := Lib.hid (ok_rs rb none w11 HR11)
        unfold okF at HOK
        go_wp2_with fail
        refine HOK.out.mono ?_
        rintro e w12 ⟨rfl, hw⟩
        obtain rfl := hw
        have HNW := Lib.hid (new_any w11)
        go_wp2_with fail
        refine HNW.out.mono ?_
        rintro e w13 ⟨tb', mb', rfl, HT13, b13, ht, hm⟩
        have HR13 := HR11.below b13
        go_wp2_with fail
        go_ret
        rw [HE.out]
        exact ⟨tb', mb', 1, rfl, HT13, HR13, only_low g9 b13 g9.size, by have := g9.size; omega, by have := g9.size; omega, by omega⟩
      · cases hS : okF S
        · have HE := Lib.hid (HEQ.out.trans (endT_bad (r := ⟨T, L, S⟩) hL0 hS))
          have hlz : ((L.length : Int) == 0) = false := by simpa using hL0
          have HLN := Lib.hid (len_any (w.heap.size + 1) w.heap.size k L.length T wr HT9)
          have HOK := Lib.hid (ok_rs rb S wr HR9)
          rw [hS] at HOK
          have HL0 := Lib.hid hL0
          clear hL0 hS
          go_wp2_with fail
          refine HLN.out.mono ?_
          rintro e w10 ⟨rfl, hw⟩
          obtain rfl := hw.symm
          go_wp2_with fail
          refine HOK.out.mono ?_
          rintro e w12 ⟨rfl, hw⟩
          obtain rfl := hw
          have HNW := Lib.hid (new_any wr)
          go_wp2_with fail
          refine HNW.out.mono ?_
          rintro e w13 ⟨tb', mb', rfl, HT13, b13, ht, hm⟩
          have HR13 := HR9.below b13
          go_wp2_with fail
          go_ret
          rw [HE.out]
          exact ⟨tb', mb', 1, rfl, HT13, HR13, only_low g9 b13 g9.size, by have := g9.size; omega, by have := g9.size; omega, by omega⟩
        · have HE := Lib.hid (HEQ.out.trans (endT_ok (r := ⟨T, L, S⟩) hL0 hS))
          have hlz : ((L.length : Int) == 0) = false := by simpa using hL0
          have HLN := Lib.hid (len_any (w.heap.size + 1) w.heap.size k L.length T wr HT9)
          have HOK := Lib.hid (ok_rs rb S wr HR9)
          rw [hS] at HOK
          have HL0 := Lib.hid hL0
          clear hL0 hS
          go_wp2_with fail
          refine HLN.out.mono ?_
          rintro e w10 ⟨rfl, hw⟩
          obtain rfl := hw.symm
          go_wp2_with fail
          refine HOK.out.mono ?_
          rintro e w12 ⟨rfl, hw⟩
          obtain rfl := hw
          go_wp2_with fail
          go_ret
          rw [HE.out]
          exact ⟨w.heap.size + 1, w.heap.size, k, rfl, HT9, HR9, g9, by omega, Nat.le_refl _, by omega⟩
end Go.Proofs.YtblcpihfnpgfiaaGreatDoor
