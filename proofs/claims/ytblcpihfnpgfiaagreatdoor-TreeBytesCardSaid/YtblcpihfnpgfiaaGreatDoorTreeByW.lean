/- TreeBytes: a tree as bytes, and back. No conditions beyond those in each statement. -/
import Derived.Test.YtblcpihfnpgfiaaGreatDoorTreeByM
import Derived.Test.YtblcpihfnpgfiaaGreatDoorTreeActs9
import Derived.Test.YtblcpihfnpgfiaaGreatDoorTreeFew
import Derived.Test.YtblcpihfnpgfiaaGreatDoorTreeHead
namespace Go.Proofs.YtblcpihfnpgfiaaGreatDoor
open Go.RowKit Go.Maps Go.Sort
set_option linter.unusedVariables false
set_option linter.unusedSimpArgs false
set_option maxRecDepth 100000

theorem run_loadEN {W : World} {b : Nat} {e : Me} (h : MeB W b e) : (Instr.loadAt 40 (.pointer (some ⟨b, 1, none⟩))).run Tryz.prog W = .ok (ndV e.2) W := by
  obtain ⟨c0, c1, c2, c3, c4, c5, c6, c7⟩ := h.cells
  simp [go_sem, c1, c2, c3, c4, c5, c6, c7, ndV]
theorem len_pos {T : List UInt8 → Option Nd} {L : List Me} (hR : Rep T L) (hG : GdT T) : 1 ≤ L.length := by
  obtain ⟨r, h, _⟩ := hG.root
  exact List.length_pos_of_mem ((hR.mem _ _).1 h)
set_option maxHeartbeats 64000000 in
theorem bytes_walk (a : Option Addr) (cap : Nat) (qs : List Aq) (a2 : Option Addr) (cap2 : Nat) (zs : List Aq) (cut : Int) (w : World) (hA : Acts9 w (.slice a qs.length cap) qs) (hZ : Acts9 w (.slice a2 zs.length cap2) zs) :
    Calls Tryz.prog 4 #[.slice a qs.length cap, .slice a2 zs.length cap2, .int .i64 cut] w fun e w' => e = .returned (.bool true) ∧ Below w.heap.size w w' := by
  have HH := Lib.hid (fun W => head9_any W)
  have HACT := Lib.hid hA
  have HACZ := Lib.hid hZ
  obtain ⟨u, hu, hu16⟩ : ∃ u : Nat, bits .and .i64 cut 65535 = (u : Int) ∧ u < 65536 := ⟨(cut % 65536).toNat, by rw [i64_and16]; omega, by omega⟩
  clear hA hZ
  go_enter Tryz.func4, Tryz.ntmps4
  go_wp2_with fail
  refine (HH.out _).mono ?_
  rintro e w2 ⟨rfl, b2⟩
  have HF := Lib.hid (few9_any a cap qs w2 (HACT.out.below b2))
  have HB2 := Lib.hid b2
  clear b2 HH
  go_wp2_with fail
  refine HF.out.mono ?_
  rintro e w3 ⟨rfl, b3⟩
  have HB3 : Hid (Below w.heap.size w w3) := Lib.hid (HB2.out.trans (b3.mono HB2.out.size))
  have HFZ := Lib.hid (few9_any a2 cap2 zs w3 (HACZ.out.below HB3.out))
  clear b3 HF HB2
  cases hfew : few9 qs with
  | false =>
    go_wp2_with fail
    go_ret
    exact ⟨rfl, HB3.out⟩
  | true =>
    have HFEW := Lib.hid hfew
    clear hfew
    go_wp2_with fail
    refine HFZ.out.mono ?_
    rintro e w3b ⟨rfl, b3b⟩
    have HB3b : Hid (Below w.heap.size w w3b) := Lib.hid (HB3.out.trans (b3b.mono HB3.out.size))
    clear b3b HFZ HB3
    cases hfew : few9 zs with
    | false =>
      go_wp2_with fail
      go_ret
      exact ⟨rfl, HB3b.out⟩
    | true =>
      have HFEZ := Lib.hid hfew
      clear hfew
      have hq40 : qs.length ≤ 40 := by
        by_cases h0 : 0 < qs.length
        · exact (few9_at HFEW.out h0).2.2.2
        · omega
      have hz40 : zs.length ≤ 40 := by
        by_cases h0 : 0 < zs.length
        · exact (few9_at HFEZ.out h0).2.2.2
        · omega
      have HN := Lib.hid (new_any w3b)
      go_wp2_with fail
      refine HN.out.mono ?_
      rintro e w4 ⟨tb, mb, rfl, H4, b4, ht, hmb⟩
      have hmw : w.heap.size ≤ mb := Nat.le_trans HB3b.out.size hmb
      have htw : w.heap.size ≤ tb := Nat.le_trans HB3b.out.size ht
      have HB4 : Hid (Below w.heap.size w w4) := Lib.hid (HB3b.out.trans (b4.mono HB3b.out.size))
      have HMN := Lib.hid (mnew_any w4)
      clear HN ht hmb HB3b b4
      go_wp2_with fail
      refine HMN.out.mono ?_
      rintro e w5 ⟨rfl, M5, b5⟩
      have H5 := H4.below b5
      have htl := H4.lt
      have hml := H4.map.lt
      have TW5 : Two w.heap.size 0 w5 tb mb 1 (w4.heap.size + 1) w4.heap.size 1 rootT [([47], Nd.zero)] := ⟨H5, ⟨M5.box, M5.row.mono (Nat.zero_le _)⟩, Rep.root, SmallK.root, by omega, htw, hmw, by have := HB4.out.size; omega, HB4.out.size, Nat.le_trans HB4.out.size b5.size⟩
      have HB5 : Hid (Below w.heap.size w w5) := Lib.hid (HB4.out.trans (b5.mono HB4.out.size))
      obtain ⟨mp, hmp⟩ : ∃ mp, mp = w4.heap.size + 1 := ⟨_, rfl⟩
      obtain ⟨g0, hg0⟩ : ∃ g0, g0 = w4.heap.size := ⟨_, rfl⟩
      rw [← hmp, ← hg0] at TW5
      rw [← hmp]
      have HTW5 := Lib.hid TW5
      clear hmp hg0 M5 H5 H4 HMN htl hml b5 HB4 TW5
      go_wp2_with fail
      go_loopw [39] (fun iv wr => ∃ (j k : Nat) (T : List UInt8 → Option Nd) (g cap : Nat) (L : List Me), j ≤ qs.length ∧ k ≤ 1 + 2 * j ∧ iv = .int .i64 j ∧ Hid (Two w.heap.size j wr tb mb k mp g cap T L) ∧ Hid (KeysOk T ∧ ParOk T ∧ GdT T) ∧ L.length ≤ 1 + j ∧ Hid (Below w.heap.size w wr)) (fun iv _ => qs.length - (intOf iv).toNat)
      case atStart => exact ⟨0, 1, rootT, g0, 1, _, by omega, by omega, rfl, HTW5, Lib.hid ⟨KeysOk.root, ParOk.root, GdT.root0⟩, by simp, HB5⟩
      case round =>
        obtain ⟨j, k, T, g, cap, L, hj, hk, rfl, HTW, HKP, hL, HB⟩ := hrel
        clear HTW5 HB5
        by_cases hlt : j < qs.length
        · have hlt2 : decide ((j : Int) < (qs.length : Int)) = true := by simp; omega
          obtain ⟨hok, hpv, ga, off, rfl, h0, h1, h2, h3, h4, h5, h6⟩ := act9_at HACT.out HB.out hlt
          obtain ⟨hf1, hf2, hf3, _⟩ := few9_at HFEW.out hlt
          have HPV := Lib.hid hpv
          have t2 : IntKind.i64.wrap ((j : Int) + 1) = (j : Int) + 1 := IntWalk.i64_in _ (by omega)
          have hj0 : (0 : Int) ≤ (j : Int) := by omega
          have hji : (j : Int) < (qs.length : Int) := by omega
          clear hok
          generalize qs.getD j aq0 = y at *
          obtain ⟨fa, fcap, hfv, _, hfm, _⟩ := hpv.1
          obtain ⟨q, pv⟩ := y
          simp only at *
          subst hfv
          clear hpv hfm
          have bA := (Below.refl _ wr).alloc (Nat.le_refl _) (.cells #[.int .i64 q.k, .int .i64 q.ver, .int .i64 q.owner, .slice fa q.path.length fcap, .string q.raw, .string q.data, .bool q.serial] 31)
          have N8 := heap_alloc_new wr (.cells #[.int .i64 q.k, .int .i64 q.ver, .int .i64 q.owner, .slice fa q.path.length fcap, .string q.raw, .string q.data, .bool q.serial] 31)
          go_upto_region 10 with fail
          obtain ⟨w8, hw8⟩ : ∃ w8, w8 = wr.alloc (.cells #[.int .i64 q.k, .int .i64 q.ver, .int .i64 q.owner, .slice fa q.path.length fcap, .string q.raw, .string q.data, .bool q.serial] 31) := ⟨_, rfl⟩
          rw [← hw8] at bA N8 ⊢
          have c0 : w8.cell? ⟨wr.heap.size, 0, none⟩ = some (.int .i64 q.k) := by simp [World.cell?, N8]
          have c1 : w8.cell? ⟨wr.heap.size, 1, none⟩ = some (.int .i64 q.ver) := by simp [World.cell?, N8]
          have c2 : w8.cell? ⟨wr.heap.size, 2, none⟩ = some (.int .i64 q.owner) := by simp [World.cell?, N8]
          have c3 : w8.cell? ⟨wr.heap.size, 3, none⟩ = some (.slice fa q.path.length fcap) := by simp [World.cell?, N8]
          have c4 : w8.cell? ⟨wr.heap.size, 4, none⟩ = some (.string q.raw) := by simp [World.cell?, N8]
          have c5 : w8.cell? ⟨wr.heap.size, 5, none⟩ = some (.string q.data) := by simp [World.cell?, N8]
          have c6 : w8.cell? ⟨wr.heap.size, 6, none⟩ = some (.bool q.serial) := by simp [World.cell?, N8]
          have HDO := Lib.hid (do_good w.heap.size j tb mb k T mp g cap L q (.slice fa q.path.length fcap) ((j : Int) + 1) w8 (HTW.out.below bA) (by omega) (by omega) (by omega) hf2 ⟨HPV.out.1.below bA, HPV.out.2⟩ hf1 hf3 HKP.out.1 HKP.out.2.1 (by omega))
          unfold acV at HDO
          have HB8 : Hid (Below w.heap.size w w8) := Lib.hid (HB.out.trans (bA.mono HB.out.size))
          clear hw8 h0 h1 h2 h3 h4 h5 h6 N8 HTW HB bA HPV
          go_wp2_with fail
          refine HDO.out.mono ?_
          rintro e w9 ⟨rfl, b9, _, T', g', cap', L', TW9, HS9, hL9, HG9⟩
          have HTW9 := Lib.hid TW9
          have HKP9 := Lib.hid (⟨HS9.keys HKP.out.1, HS9.par HKP.out.2.1, HG9 HKP.out.2.2⟩ : KeysOk T' ∧ ParOk T' ∧ GdT T')
          have HB9 : Hid (Below w.heap.size w w9) := Lib.hid (HB8.out.trans b9)
          clear b9 HB8 HDO c0 c1 c2 c3 c4 c5 c6 TW9 HS9 HG9 HKP
          go_wp2_with fail
          go_roundw
          case rel => exact ⟨j + 1, k + 2, T', g', cap', L', by omega, by omega, by go_num, HTW9, HKP9, by omega, HB9⟩
          case measure => simp [intOf]; omega
        · have hlt2 : decide ((j : Int) < (qs.length : Int)) = false := by simp; omega
          obtain ⟨wE, hwE⟩ : ∃ wE, wE = wr := ⟨_, rfl⟩
          rw [← hwE] at HTW HB ⊢
          clear hwE
          have hL1 := len_pos HTW.out.rep HKP.out.2.2
          have hNd : ∀ x n, T x = some n → NdOk n := fun x n hx => HKP.out.2.2.ndOk HTW.out.small (by omega) hx
          have HND := Lib.hid hNd
          obtain ⟨l, hl⟩ : ∃ l, l = layE L := ⟨_, rfl⟩
          have hful := readT_full HTW.out.rep HKP.out.1 HKP.out.2.2 HTW.out.small (by omega) hL1 (by omega) []
          rw [List.append_nil, ← hl] at hful
          have HFUL := Lib.hid hful
          have hcutB := readT_cut HTW.out.rep HKP.out.1 HKP.out.2.2 HTW.out.small (by omega) hL1 (by omega)
          rw [← hl] at hcutB
          have HCUT := Lib.hid hcutB
          have hlen := layE_len L (by omega)
          rw [← hl] at hlen
          have HLEN := Lib.hid hlen
          have HLBY := Lib.hid (lay_any tb mb k L.length T L wE HTW.out.tree HTW.out.rep rfl (by omega) (fun x n hx => (hNd x n hx).toPut) (keys_small HKP.out.1))
          rw [← hl] at HLBY
          have HL := Lib.hid hl
          clear hful hcutB hlen hNd hl
          go_wp2_with fail
          refine HLBY.out.mono ?_
          rintro e w6 ⟨v6, rfl, B6, b6⟩
          have hconv := run_str B6.src
          obtain ⟨Sx, hSx⟩ : ∃ Sx : ByteArray, Sx = ⟨l.toArray⟩ := ⟨_, rfl⟩
          rw [← hSx] at hconv
          obtain ⟨nl, hnl⟩ : ∃ nl, nl = l.length := ⟨_, rfl⟩
          have hSn : Sx.size = nl := by rw [hSx, size_arr, hnl]
          have HSX := Lib.hid hSx
          have HNL := Lib.hid hnl
          have HB6 : Hid (Below wE.heap.size wE w6) := Lib.hid b6
          have x1 := (HTW.out.mod.below b6).cell
          have HNUM := Lib.hid (num_one (.slice none 0 0) [] (L.length : Int) w6 (Src.nil w6) (by simp) (by omega))
          clear B6 HLBY b6 hSx hnl
          go_wp2_with fail
          refine HNUM.out.mono ?_
          rintro e w7 ⟨v7, rfl, B7, b7⟩
          have HB7 : Hid (Below wE.heap.size wE w7) := Lib.hid (HB6.out.trans (b7.mono HB6.out.size))
          have B70 : Bs w7 0 v7 (numE (L.length : Int) ++ (L.take 0).flatMap entE) := by simpa using B7.mono (Nat.zero_le _)
          have HBV := Lib.hid B70
          have x2 := (HTW.out.mod.below HB7.out).cell
          clear HNUM B7 B70 b7 x1 HB6 hconv
          go_wp2_with fail
          go_loopw [12, 66] (fun wv iv wy => ∃ i : Nat, i ≤ L.length ∧ iv = .int .i64 i ∧ Hid (Bs wy 0 wv (numE (L.length : Int) ++ (L.take i).flatMap entE)) ∧ Hid (Below wE.heap.size wE wy)) (fun _ iv _ => L.length - (intOf iv).toNat)
          case atStart => exact ⟨0, by omega, rfl, HBV, HB7⟩
          case round =>
            clear x2 HBV HB7
            obtain ⟨i, hi, rfl, HBV, HBE⟩ := hrel
            by_cases hlt : i < L.length
            · have hlt3 : decide ((i : Int) < (L.length : Int)) = true := by simp; omega
              have t2 : IntKind.i64.wrap ((i : Int) + 1) = (i : Int) + 1 := IntWalk.i64_in _ (by omega)
              have hj0 : (0 : Int) ≤ (i : Int) := by omega
              have hji : (i : Int) < (L.length : Int) := by omega
              obtain ⟨⟨p, n⟩, he⟩ : ∃ e, L[i]? = some e := ⟨L[i], by simp [hlt]⟩
              have hgd : L.getD i meZ = (p, n) := by rw [List.getD_eq_getElem?_getD, he]; rfl
              have hmem : (p, n) ∈ L := List.mem_of_getElem? he
              have hTp := (HTW.out.rep.mem p n).2 hmem
              have hpl := keys_small HKP.out.1 p n hTp
              have hok := HND.out p n hTp
              have HSN : Hid ((L.take (i + 1)).flatMap entE = (L.take i).flatMap entE ++ entE (p, n)) := Lib.hid (by rw [ents_snoc L i hlt, hgd])
              have hEL := ents_len (L.take i)
              rw [List.length_take] at hEL
              have HLD := Lib.hid (run_loadE (HTW.out.mod.below HBE.out) he)
              obtain ⟨w8, hst, E8, b8⟩ := newE wr (p, n)
              have HST := Lib.hid hst
              have HLN := Lib.hid (run_loadEN E8)
              obtain ⟨w9, hst9, N9, b9, _⟩ := newN w8 n
              have HST9 := Lib.hid hst9
              have b89 := b8.trans (b9.mono b8.size)
              obtain ⟨M, hM⟩ : ∃ M, M = numE (L.length : Int) ++ (L.take i).flatMap entE := ⟨_, rfl⟩
              have hMl : M.length ≤ 20000000 := by rw [hM, List.length_append, numE_length]; omega
              rw [← hM] at HBV
              have HM := Lib.hid hM
              have HML := Lib.hid hMl
              have HOK := Lib.hid hok
              have hpz : (bs p).size ≤ 1000000 := by rw [bs_size]; omega
              have hdz : n.data.size ≤ 1000000 := by have := hok.data; omega
              obtain ⟨eb, heb⟩ : ∃ eb, eb = wr.heap.size := ⟨_, rfl⟩
              obtain ⟨nb, hnb⟩ : ∃ nb, nb = w8.heap.size := ⟨_, rfl⟩
              have HDW : Hid (∀ W : World, Below w9.drew.heap.size w9.drew W → MeB W eb (p, n) ∧ NdB W nb n ∧ Bs W 0 u12 M ∧ Below wr.heap.size wr W) := Lib.hid fun W hW => by
                have hW' : Below w9.heap.size w9 W := (Below.refl _ w9).drew.trans (hW.mono (Nat.le_refl _))
                have h9 := b9.trans (hW'.mono b9.size)
                exact ⟨by rw [heb]; exact E8.below h9, by rw [hnb]; exact N9.below hW', HBV.out.below (b8.trans (h9.mono b8.size)), b8.trans (h9.mono b8.size)⟩
              unfold meA at HLD HST
              unfold ndV at HLN HST9
              simp only at HLD HST HLN HST9
              clear hst hst9 he hgd hmem hTp hpl hok E8 N9 b8 b9 b89 hM hMl hEL HBV
              go_upto_region 18 with (first | (refine wpList_load_run HLD.out rfl rfl rfl ?_) | (refine wpList_store_run HST.out rfl rfl rfl rfl ?_) | (refine wpList_load_run HLN.out rfl rfl rfl ?_) | (refine wpList_store_run HST9.out rfl rfl rfl rfl ?_))
              rw [← heb, ← hnb]
              clear HLD HST HLN HST9 heb hnb
              refine wp_region_steps_tail 9 0 (F18 u12 0 eb nb M (bs p) n.data) (fun x y => Below x.heap.size x y) (by kernel_rfl) (by kernel_rfl) (by kernel_rfl) (by kernel_rfl) (by kernel_rfl) (by kernel_rfl) (Below.refl _ _) (fun i v x y _ h hb => F18_keep i h hb) (fun x y z h1 h2 => h1.trans (h2.mono h1.size)) ?_ ?_
              · intro i o hi ho x W hR hF hX
                have e0 := (HDW.out W hR).1.cells.1
                have n0 := (NdB.cells (HDW.out W hR).2.1).1.1
                have hml := HML.out
                match i, ho with
                | 0, ho =>
                  obtain rfl := Option.some.inj ho
                  exact gstep_move rfl (wanted0 rfl) _ rfl _ (eval_at 12 9 _ (by kernel_rfl) (show 12 < 172 by decide) ((hX 9 _ (by decide) rfl).trans rfl)) ⟨_, rfl, rfl, Below.refl _ _⟩
                | 1, ho =>
                  obtain rfl := Option.some.inj ho
                  exact gstep_field rfl (wanted0 rfl) _ _ _ rfl _ (eval_of 14 _ (by kernel_rfl) rfl) _ (run_fEn0 W _) ⟨_, rfl, rfl, Below.refl _ _⟩
                | 2, ho =>
                  obtain rfl := Option.some.inj ho
                  exact gstep_load rfl (wanted0 rfl) _ _ rfl _ (eval_at 73 1 _ (by kernel_rfl) (show 73 < 172 by decide) (hF 1 (by kernel_rfl))) _ (run_ldS W _ _ e0) ⟨_, rfl, rfl, Below.refl _ _⟩
                | 3, ho =>
                  obtain rfl := Option.some.inj ho
                  exact gstep_row1 rfl (wanted0 rfl) _ _ rfl _ (eval_at 74 2 _ (by kernel_rfl) (show 74 < 172 by decide) (hF 2 (by kernel_rfl))) _ _ (run_row1S W _) ⟨_, rfl, ⟨W.heap.size, rfl, by simp, cells_new (j := 0) rfl⟩, (Below.refl _ W).alloc (Nat.le_refl _) _⟩
                | 4, ho =>
                  obtain rfl := Option.some.inj ho
                  obtain ⟨g, hg1, hg2, hg3⟩ := hF 3 (by kernel_rfl)
                  refine gstep_call2 rfl (wanted0 rfl) _ _ _ _ rfl _ _ (eval_at 72 0 _ (by kernel_rfl) (show 72 < 172 by decide) (hF 0 (by kernel_rfl))) (eval_at 75 3 _ (by kernel_rfl) (show 75 < 172 by decide) hg1) (call_t2 W _ _) ?_
                  refine (text_w u12 M 0 g (bs p) W (HDW.out W hR).2.2.1.src hg2 hg3 (by omega) hpz (Nat.zero_le _)).mono ?_
                  rintro e W2 ⟨v, rfl, hB, hb⟩
                  exact ⟨_, rfl, _, rfl, hB, hb⟩
                | 5, ho =>
                  obtain rfl := Option.some.inj ho
                  exact gstep_field rfl (wanted0 rfl) _ _ _ rfl _ (eval_of 15 _ (by kernel_rfl) rfl) _ (run_fNd0 W _) ⟨_, rfl, rfl, Below.refl _ _⟩
                | 6, ho =>
                  obtain rfl := Option.some.inj ho
                  exact gstep_load rfl (wanted0 rfl) _ _ rfl _ (eval_at 77 5 _ (by kernel_rfl) (show 77 < 172 by decide) (hF 5 (by kernel_rfl))) _ (run_ldS W _ _ n0) ⟨_, rfl, rfl, Below.refl _ _⟩
                | 7, ho =>
                  obtain rfl := Option.some.inj ho
                  exact gstep_row1 rfl (wanted0 rfl) _ _ rfl _ (eval_at 78 6 _ (by kernel_rfl) (show 78 < 172 by decide) (hF 6 (by kernel_rfl))) _ _ (run_row1S W _) ⟨_, rfl, ⟨W.heap.size, rfl, by simp, cells_new (j := 0) rfl⟩, (Below.refl _ W).alloc (Nat.le_refl _) _⟩
                | 8, ho =>
                  obtain rfl := Option.some.inj ho
                  obtain ⟨g, hg1, hg2, hg3⟩ := hF 7 (by kernel_rfl)
                  have h4 : Bs W 0 (x 4) (M ++ textsE [bs p]) := hF 4 (by kernel_rfl)
                  refine gstep_call2 rfl (wanted0 rfl) _ _ _ _ rfl _ _ (eval_at 76 4 _ (by kernel_rfl) (show 76 < 172 by decide) rfl) (eval_at 79 7 _ (by kernel_rfl) (show 79 < 172 by decide) hg1) (call_t2 W _ _) ?_
                  refine (text_w (x 4) (M ++ textsE [bs p]) 0 g n.data W h4.src hg2 hg3 (by have := textsE_length [bs p]; rw [List.length_append]; simp only [List.length_cons, List.length_nil] at this; omega) hdz (Nat.zero_le _)).mono ?_
                  rintro e W2 ⟨v, rfl, hB, hb⟩
                  exact ⟨_, rfl, _, rfl, hB, hb⟩
                | n + 9, ho => omega
              · intro x W hR hF
                have h8 : Bs W 0 (x 8) ((M ++ textsE [bs p]) ++ textsE [n.data]) := hF 8 (by decide)
                have hN := (HDW.out W hR).2.1
                have bW : Below wE.heap.size wE W := HBE.out.trans ((HDW.out W hR).2.2.2.mono HBE.out.size)
                refine gstep_assign rfl (wanted0 rfl) _ rfl _ (eval_at 80 8 _ (by kernel_rfl) (show 80 < 172 by decide) rfl) ?_
                unfold tailK
                simp only [putAll, Act.put, List.setIfInBounds_toArray, List.set_cons_succ, List.set_cons_zero]
                obtain ⟨six, hsix⟩ : ∃ s : List Int, s = [n.ver, n.below, n.owner, n.made, n.put, n.serial] := ⟨_, rfl⟩
                obtain ⟨M2, hM2⟩ : ∃ X, X = (M ++ textsE [bs p]) ++ textsE [n.data] := ⟨_, rfl⟩
                have hM2l : M2.length ≤ 21000000 := by
                  have h1 := textsE_length [bs p]
                  have h2 := textsE_length [n.data]
                  have := HML.out
                  rw [hM2, List.length_append, List.length_append]
                  simp only [List.length_cons, List.length_nil] at h1 h2
                  omega
                rw [← hM2] at h8
                have HEN : Hid (M2 ++ numsE six = M ++ entE (p, n)) := Lib.hid (by rw [hM2, hsix, entE_two]; unfold textsE; simp only [List.flatMap_cons, List.flatMap_nil, List.append_nil, List.append_assoc])
                obtain ⟨⟨c0, c1, c2, c3, c4, c5, c6⟩, _⟩ := NdB.cells hN
                have bC := (Below.refl _ W).alloc (Nat.le_refl _) (.cells #[.int .i64 n.ver, .int .i64 n.below, .int .i64 n.owner, .int .i64 n.made, .int .i64 n.put, .int .i64 n.serial] 3)
                have HCN := Lib.hid (show ∀ q, q < 6 → (W.alloc (.cells #[.int .i64 n.ver, .int .i64 n.below, .int .i64 n.owner, .int .i64 n.made, .int .i64 n.put, .int .i64 n.serial] 3)).cell? ⟨W.heap.size, 0 + q, none⟩ = some (.int .i64 (six.getD q 0)) from fun q hq => by
                  rw [hsix]
                  exact cells_new (by match q, hq with
                    | 0, _ => rfl
                    | 1, _ => rfl
                    | 2, _ => rfl
                    | 3, _ => rfl
                    | 4, _ => rfl
                    | 5, _ => rfl))
                have HNZ : Hid (∀ q, q < 6 → InR (six.getD q 0)) := Lib.hid (fun q hq => by
                  have hp := HOK.out.toPut
                  rw [hsix]
                  match q, hq with
                  | 0, _ => exact hp.2.1
                  | 1, _ => exact hp.2.2.1
                  | 2, _ => exact hp.2.2.2.1
                  | 3, _ => exact hp.2.2.2.2.1
                  | 4, _ => exact hp.2.2.2.2.2.1
                  | 5, _ => exact hp.2.2.2.2.2.2)
                have HNL6 : Hid (six.length = 6) := Lib.hid (by rw [hsix]; rfl)
                have HB8 := Lib.hid (h8.below bC)
                have HBW : Hid (Below wE.heap.size wE (W.alloc (.cells #[.int .i64 n.ver, .int .i64 n.below, .int .i64 n.owner, .int .i64 n.made, .int .i64 n.put, .int .i64 n.serial] 3))) := Lib.hid (bW.trans (bC.mono bW.size))
                have HM2L := Lib.hid hM2l
                clear hF hR HDW h8 hN bW bC hsix hM2 hM2l HBE
                generalize x 8 = xv at *
                go_wp2_with fail
                obtain ⟨wC, hwC⟩ : ∃ wC, wC = W.alloc (.cells #[.int .i64 n.ver, .int .i64 n.below, .int .i64 n.owner, .int .i64 n.made, .int .i64 n.put, .int .i64 n.serial] 3) := ⟨_, rfl⟩
                obtain ⟨cb, hcb⟩ : ∃ cb, cb = W.heap.size := ⟨_, rfl⟩
                rw [← hwC] at HCN HB8 HBW ⊢
                rw [← hcb] at HCN ⊢
                have hcbs : cb < wC.heap.size := World.block_lt_of_cell? wC _ (HCN.out 0 (by decide))
                have HBI : Hid (Bs wC 0 xv (M2 ++ numsE (six.take 0))) := Lib.hid (by simpa [numsE] using HB8.out)
                clear hwC hcb HB8 c0 c1 c2 c3 c4 c5 c6
                go_loopw [12, 95] (fun wv iv wz => ∃ q : Nat, q ≤ 6 ∧ iv = .int .i64 q ∧ Hid (Bs wz 0 wv (M2 ++ numsE (six.take q))) ∧ Hid (Below wC.heap.size wC wz)) (fun _ iv _ => 6 - (intOf iv).toNat)
                case atStart => exact ⟨0, by omega, rfl, HBI, Lib.hid (Below.refl _ _)⟩
                case round =>
                  clear HBI
                  obtain ⟨q, hq, rfl, HBI, HBC⟩ := hrel
                  by_cases hlt6 : q < 6
                  · have hcell := (HBC.out.cell (p := ⟨cb, 0 + q, none⟩) hcbs).trans (HCN.out q hlt6)
                    rw [Nat.zero_add] at hcell
                    have hz := HNZ.out q hlt6
                    have hq0 : (0 : Int) ≤ (q : Int) := by omega
                    have hq6 : (q : Int) < (6 : Int) := by omega
                    have t3 : IntKind.i64.wrap ((q : Int) + 1) = (q : Int) + 1 := IntWalk.i64_in _ (by omega)
                    have HS6 := Lib.hid (numsE_snoc six q (by rw [HNL6.out]; exact hlt6))
                    have hMq : (M2 ++ numsE (six.take q)).length ≤ 22000000 := by
                      have := HM2L.out
                      rw [List.length_append, numsE_length, List.length_take]; omega
                    generalize six.getD q 0 = z at *
                    have bN := (Below.refl _ wr).alloc (Nat.le_refl _) (.cells #[.int .i64 z] 3)
                    have HNM := Lib.hid (num_w u12 (M2 ++ numsE (six.take q)) 0 wr.heap.size z (wr.alloc (.cells #[.int .i64 z] 3)) (HBI.out.below bN).src (by simp) (cells_new (j := 0) rfl) (by omega) hz (Nat.zero_le _))
                    have HBN := Lib.hid bN
                    clear HBI hMq hz bN
                    go_wp2_with fail
                    refine HNM.out.mono ?_
                    rintro e w10 ⟨v10, rfl, B10, b10⟩
                    have HR := Lib.hid (B10.mk (show (M2 ++ numsE (six.take q)) ++ numsE [z] = M2 ++ numsE (six.take (q + 1)) by rw [HS6.out, List.append_assoc]; simp [numsE]))
                    have HBC2 : Hid (Below wC.heap.size wC w10) := Lib.hid (HBC.out.trans ((HBN.out.trans (b10.mono HBN.out.size)).mono HBC.out.size))
                    clear HNM B10 b10 HBN HBC hcell HS6
                    go_wp2_with fail
                    go_roundw
                    case rel => exact ⟨_, _, _, _, _, _, _, _, _, _, _, ⟨q + 1, by omega, by go_num, HR, HBC2⟩, rfl⟩
                    case measure => simp [intOf]; omega
                  · obtain rfl : q = 6 := by omega
                    have hlt7 : decide ((6 : Int) < (6 : Int)) = false := by simp
                    have HBV2 := Lib.hid (HBI.out.mk (show M2 ++ numsE (six.take 6) = numE (L.length : Int) ++ (L.take (i + 1)).flatMap entE by rw [List.take_of_length_le (by rw [HNL6.out]; omega), HEN.out, HM.out, HSN.out, List.append_assoc]))
                    have HBE2 := Lib.hid (HBW.out.trans (HBC.out.mono HBW.out.size))
                    clear HBI HBC HBW HCN HNZ
                    go_wp2_with fail
                    go_roundw
                    case rel => exact ⟨i + 1, by omega, by go_num, HBV2, HBE2⟩
                    case measure => simp [intOf]; omega
            · obtain rfl : i = L.length := by omega
              have hlt3 : decide ((L.length : Int) < (L.length : Int)) = false := by simp
              obtain ⟨wF, hwF⟩ : ∃ wF, wF = wr := ⟨_, rfl⟩
              rw [← hwF] at HBV HBE ⊢
              clear hwF
              have HWT := Lib.hid (HBV.out.mk (show numE (L.length : Int) ++ (L.take L.length).flatMap entE = l by rw [List.take_of_length_le (Nat.le_refl _), HL.out]; rfl))
              have HRD := Lib.hid (read_st2 Sx wF (by rw [hSn, HNL.out]; have := HLEN.out; omega))
              generalize u12 = wv at *
              clear HBV
              go_wp2_with fail
              refine HRD.out.mono ?_
              rintro e w7 ⟨rfl, R7, b7⟩
              obtain ⟨rb, hrb⟩ : ∃ rb, rb = wF.heap.size := ⟨_, rfl⟩
              rw [← hrb] at R7 ⊢
              rw [HSX.out, show ((⟨l.toArray⟩ : ByteArray).data.toList) = l by simp] at R7
              have HB7 : Hid (Below wF.heap.size wF w7) := Lib.hid b7
              have HRB : Hid (wF.heap.size ≤ rb) := Lib.hid (by rw [hrb]; exact Nat.le_refl _)
              have hbr := tread_any rb (some l) w7 R7
              rw [HFUL.out] at hbr
              have HBR := Lib.hid hbr
              clear HRD R7 b7 hrb hbr
              go_wp2_with fail
              refine HBR.out.mono ?_
              rintro e w8 ⟨tu, mu, ku, rfl, U8, R8, g8, htu, hmu, hku⟩
              have HB8 : Hid (Below wF.heap.size wF w8) := Lib.hid (HB7.out.grown g8 HB7.out.size (fun q hq => by cases hq; exact HRB.out))
              have HBE8 : Hid (Below wE.heap.size wE w8) := Lib.hid (HBE.out.trans (HB8.out.mono HBE.out.size))
              have htu0 : wF.heap.size ≤ tu := Nat.le_trans HB7.out.size htu
              have hmu0 : wF.heap.size ≤ mu := Nat.le_trans HB7.out.size hmu
              have HU8 := Lib.hid U8
              have HDN := Lib.hid (done_rs rb (some []) w8 R8)
              rw [show doneF (some []) = 0 from rfl] at HDN
              have hconv := run_str (HWT.out.below HB8.out).src
              rw [← HSX.out] at hconv
              have eS : (Sx.toList == Sx.toList) = true := by simp
              have HSM := Lib.hid (same_any tu mu ku tb mb k L.length T w8 U8 (HTW.out.tree.below HBE8.out) (by omega))
              clear U8 R8 g8 htu hmu HBR HB7 HRB HWT
              go_wp2_with fail
              refine HDN.out.mono ?_
              rintro e w9 ⟨rfl, hw⟩
              obtain rfl := hw
              go_wp2_with fail
              refine HSM.out.mono ?_
              rintro e w10 ⟨rfl, b10⟩
              have HB10 := Lib.hid b10
              have HSM2 := Lib.hid (samem_any tu mu ku T 0 mp g cap L w10 (HU8.out.below b10) (HTW.out.mod.below (HBE8.out.trans (b10.mono HBE8.out.size))) HTW.out.rep (by omega) HKP.out.1 (keys_small HKP.out.1))
              clear HDN HSM b10 hconv eS
              go_wp2_with fail
              refine HSM2.out.mono ?_
              rintro e w11 ⟨rfl, b11⟩
              have HB11 := Lib.hid (HB10.out.trans (b11.mono HB10.out.size))
              have hnz : ¬ (nl : Int) = 0 := by have := HLEN.out; have := HNL.out; omega
              have hb0 : (0 : Int) ≤ (u : Int) % (nl : Int) := Int.emod_nonneg _ hnz
              have hb1 : (u : Int) % (nl : Int) ≤ (nl : Int) := Int.le_of_lt (Int.emod_lt_of_pos _ (by omega))
              have HNlt : Hid (u % nl < nl) := Lib.hid (Nat.mod_lt _ (by omega))
              clear HSM2 b11 HB10
              go_wp2_with fail
              obtain ⟨N, hN⟩ : ∃ N, N = u % nl := ⟨_, rfl⟩
              rw [← hN] at HNlt ⊢
              have hcut : Sx.extract 0 N = ⟨(l.take N).toArray⟩ := by rw [HSX.out, extract_head]
              obtain ⟨S2, hS2⟩ : ∃ S2, S2 = Sx.extract 0 N := ⟨_, rfl⟩
              rw [← hS2] at hcut ⊢
              have HRD2 := Lib.hid (read_st2 S2 w11 (by rw [hcut, size_arr, List.length_take]; have := HLEN.out; omega))
              have HCT := Lib.hid hcut
              have HN2 : Hid (N < l.length) := Lib.hid (by rw [← HNL.out]; exact HNlt.out)
              clear hN hb0 hb1 hS2 hcut hnz HNlt
              refine HRD2.out.mono ?_
              rintro e w12 ⟨rfl, R12, b12⟩
              obtain ⟨rs, hrs⟩ : ∃ rs, rs = w11.heap.size := ⟨_, rfl⟩
              rw [← hrs] at R12 ⊢
              rw [HCT.out, show ((⟨(l.take N).toArray⟩ : ByteArray).data.toList) = l.take N by simp] at R12
              have HB12 := Lib.hid (HB11.out.trans (b12.mono HB11.out.size))
              have HRS : Hid (w8.heap.size ≤ rs) := Lib.hid (by rw [hrs]; exact HB11.out.size)
              have hcf := HCUT.out N HN2.out
              obtain ⟨f1, f2⟩ := readT_fail hcf
              have hbr := tread_any rs (some (l.take N)) w12 R12
              rw [f1, f2] at hbr
              have HCF := Lib.hid hcf
              have HBR := Lib.hid hbr
              clear HRD2 R12 b12 hrs hbr hcf f1 f2 HB11
              go_wp2_with fail
              refine HBR.out.mono ?_
              rintro e w13 ⟨tv, mv, kv, rfl, V13, R13, g13, htv, hmv, hkv⟩
              have HB13 : Hid (Below w8.heap.size w8 w13) := Lib.hid (HB12.out.grown g13 HB12.out.size (fun q hq => by cases hq; exact HRS.out))
              have HOK := Lib.hid (ok_rs rs _ w13 R13)
              rw [HCF.out] at HOK
              have HV13 := Lib.hid V13
              have HNN := Lib.hid (new_any w13)
              clear V13 R13 g13 htv hmv HBR HB12 HRS
              go_wp2_with fail
              refine HOK.out.mono ?_
              rintro e w14 ⟨rfl, hw⟩
              obtain rfl := hw
              go_wp2_with fail
              refine HNN.out.mono ?_
              rintro e w15 ⟨tn, mn, rfl, N15, b15, _, _⟩
              have HB15 := Lib.hid (HB13.out.trans (b15.mono HB13.out.size))
              have HSMV := Lib.hid (same_any tv mv kv tn mn 1 1 rootT w15 (HV13.out.below b15) N15 (by omega))
              clear N15 b15 HOK HNN HB13
              go_wp2_with fail
              refine HSMV.out.mono ?_
              rintro e w16 ⟨rfl, b16⟩
              have HB16 := Lib.hid (HB15.out.trans (b16.mono HB15.out.size))
              have HBE16 : Hid (Below wE.heap.size wE w16) := Lib.hid (HBE8.out.trans (HB16.out.mono HBE8.out.size))
              have HCL := Lib.hid (tclone_any tb mb k L.length T w16 (HTW.out.tree.below HBE16.out))
              clear b16 HSMV HB15
              go_wp2_with fail
              refine HCL.out.mono ?_
              rintro e w17 ⟨tc, mc, rfl, C17, b17, htc, hmc⟩
              have HB17 := Lib.hid (HB16.out.trans (b17.mono HB16.out.size))
              have HBE17 : Hid (Below wE.heap.size wE w17) := Lib.hid (HBE8.out.trans (HB17.out.mono HBE8.out.size))
              have HBW17 : Hid (Below w.heap.size w w17) := Lib.hid (HB.out.trans (HBE17.out.mono HB.out.size))
              have HC17 := Lib.hid C17
              have HU17 := Lib.hid (HU8.out.below HB17.out)
              have HT17 := Lib.hid (HTW.out.tree.below HBE17.out)
              have HM17 := Lib.hid (HTW.out.mod.below HBE17.out)
              have hmbE : mb < wE.heap.size := HTW.out.tree.map.lt
              have htbE : tb < wE.heap.size := HTW.out.tree.lt
              have hEF := HBE.out.size
              have hE16 := HBE16.out.size
              have hE17 := HBE17.out.size
              have hne : mp ≠ mb ∧ g ≠ mb := ⟨fun e => HTW.out.ne.2.2.1 e.symm, fun e => HTW.out.ne.2.2.2 e.symm⟩
              have hcu : tc ≠ mb ∧ mc ≠ mb ∧ tu ≠ mb ∧ mu ≠ mb := by omega
              have hab1 := HTW.out.above.1
              have hab2 := HTW.out.above.2.1
              have HSK : Hid (SmallK 40 T) := Lib.hid (HTW.out.small.mono (by omega))
              clear C17 b17 htc hmc HCL HU8 HB17 HB16 HBE16 HBE8 HB8
              go_wp2_with fail
              go_loopw [152] (fun iv wy => ∃ (j k c : Nat) (T' : List UInt8 → Option Nd), j ≤ zs.length ∧ k ≤ 81 + 2 * j ∧ c ≤ 41 + j ∧ iv = .int .i64 j ∧ Hid (TrW wy tb mb k c T') ∧ Hid (SmallK (40 + j) T' ∧ KeysOk T' ∧ ParOk T') ∧ Hid (K1 w17 wy mb) ∧ Hid (Below w.heap.size w wy)) (fun iv _ => zs.length - (intOf iv).toNat)
              case atStart => exact ⟨0, k, L.length, T, by omega, by omega, by omega, rfl, HT17, Lib.hid ⟨HSK.out, HKP.out.1, HKP.out.2.1⟩, Lib.hid (K1.refl _ _), HBW17⟩
              case round =>
                clear HT17 HBW17
                obtain ⟨j2, k2, c2, T2, hj2, hk2, hc2, rfl, HT2, HK2, HK1, HB2⟩ := hrel
                by_cases hlt : j2 < zs.length
                · have hlt2 : decide ((j2 : Int) < (zs.length : Int)) = true := by simp; omega
                  obtain ⟨hok, hpv, ga, off, rfl, h0, h1, h2, h3, h4, h5, h6⟩ := act9_at HACZ.out HB2.out hlt
                  obtain ⟨hf1, hf2, hf3, _⟩ := few9_at HFEZ.out hlt
                  have HPV := Lib.hid hpv
                  have t2 : IntKind.i64.wrap ((j2 : Int) + 1) = (j2 : Int) + 1 := IntWalk.i64_in _ (by omega)
                  have hj0 : (0 : Int) ≤ (j2 : Int) := by omega
                  have hji : (j2 : Int) < (zs.length : Int) := by omega
                  clear hok
                  generalize zs.getD j2 aq0 = y at *
                  obtain ⟨fa, fcap, hfv, _, hfm, _⟩ := hpv.1
                  obtain ⟨q, pv⟩ := y
                  simp only at *
                  subst hfv
                  clear hpv hfm
                  have bA := (Below.refl _ wr).alloc (Nat.le_refl _) (.cells #[.int .i64 q.k, .int .i64 q.ver, .int .i64 q.owner, .slice fa q.path.length fcap, .string q.raw, .string q.data, .bool q.serial] 31)
                  have N8 := heap_alloc_new wr (.cells #[.int .i64 q.k, .int .i64 q.ver, .int .i64 q.owner, .slice fa q.path.length fcap, .string q.raw, .string q.data, .bool q.serial] 31)
                  go_upto_region 37 with fail
                  obtain ⟨w8, hw8⟩ : ∃ w8, w8 = wr.alloc (.cells #[.int .i64 q.k, .int .i64 q.ver, .int .i64 q.owner, .slice fa q.path.length fcap, .string q.raw, .string q.data, .bool q.serial] 31) := ⟨_, rfl⟩
                  rw [← hw8] at bA N8 ⊢
                  have c0 : w8.cell? ⟨wr.heap.size, 0, none⟩ = some (.int .i64 q.k) := by simp [World.cell?, N8]
                  have c1 : w8.cell? ⟨wr.heap.size, 1, none⟩ = some (.int .i64 q.ver) := by simp [World.cell?, N8]
                  have c2 : w8.cell? ⟨wr.heap.size, 2, none⟩ = some (.int .i64 q.owner) := by simp [World.cell?, N8]
                  have c3 : w8.cell? ⟨wr.heap.size, 3, none⟩ = some (.slice fa q.path.length fcap) := by simp [World.cell?, N8]
                  have c4 : w8.cell? ⟨wr.heap.size, 4, none⟩ = some (.string q.raw) := by simp [World.cell?, N8]
                  have c5 : w8.cell? ⟨wr.heap.size, 5, none⟩ = some (.string q.data) := by simp [World.cell?, N8]
                  have c6 : w8.cell? ⟨wr.heap.size, 6, none⟩ = some (.bool q.serial) := by simp [World.cell?, N8]
                  have HN8 : Hid (w8.heap[wr.heap.size]? = some (.cells (acA q (.slice fa q.path.length fcap)) 31 (0, 0))) := Lib.hid N8
                  have hr8 : wr.heap.size < w8.heap.size := (Array.getElem?_eq_some_iff.1 N8).1
                  have h178 : w17.heap.size ≤ w8.heap.size := Nat.le_trans HK1.out.1 bA.size
                  have hww : w.heap.size ≤ wr.heap.size := HB2.out.size
                  have hmb2 : mb < wr.heap.size := HT2.out.map.lt
                  have htb2 : tb < wr.heap.size := HT2.out.lt
                  obtain ⟨ab, hab⟩ : ∃ ab, ab = wr.heap.size := ⟨_, rfl⟩
                  have HDW : Hid (∀ W : World, Below w8.drew.heap.size w8.drew W → Below wr.heap.size wr W ∧ W.heap[ab]? = some (.cells (acA q (.slice fa q.path.length fcap)) 31 (0, 0)) ∧ w8.heap.size ≤ W.heap.size) := Lib.hid fun W hW => by
                    have hW' : Below w8.heap.size w8 W := (Below.refl _ w8).drew.trans (hW.mono (Nat.le_refl _))
                    exact ⟨bA.trans (hW'.mono bA.size), by rw [hab]; exact (hW'.block _ hr8).trans HN8.out, hW'.size⟩
                  rw [← hab]
                  clear c0 c1 c2 c3 c4 c5 c6 hw8 h0 h1 h2 h3 h4 h5 h6 N8 HN8 bA hab
                  refine wp_region_steps_tail 5 0 (F37 w8.heap.size tb q (.slice fa q.path.length fcap) j2) (fun x y => Below x.heap.size x y) (by kernel_rfl) (by kernel_rfl) (by kernel_rfl) (by kernel_rfl) (by kernel_rfl) (by kernel_rfl) (Below.refl _ _) (fun i v x y _ h hb => F37_keep i h hb) (fun x y z h1 h2 => h1.trans (h2.mono h1.size)) ?_ ?_
                  · intro i o hi ho x W hR hF hX
                    match i, ho with
                    | 0, ho =>
                      obtain rfl := Option.some.inj ho
                      exact gstep_move rfl (wanted0 rfl) _ rfl _ (eval_of 7 _ (by kernel_rfl) rfl) ⟨_, rfl, rfl, Below.refl _ _⟩
                    | 1, ho =>
                      obtain rfl := Option.some.inj ho
                      refine gstep_call0 rfl (wanted0 rfl) _ _ rfl (call_new0 W) ?_
                      refine (fresh_new w8.heap.size W (HDW.out W hR).2.2).mono ?_
                      rintro e W2 ⟨v, rfl, hF2, hb⟩
                      exact ⟨_, rfl, _, rfl, hF2, hb⟩
                    | 2, ho =>
                      obtain rfl := Option.some.inj ho
                      exact gstep_load rfl (wanted0 rfl) _ _ rfl _ (eval_of 24 _ (by kernel_rfl) rfl) _ (run_ldAc W _ _ _ (HDW.out W hR).2.1) ⟨_, rfl, rfl, Below.refl _ _⟩
                    | 3, ho =>
                      obtain rfl := Option.some.inj ho
                      exact gstep_move rfl (wanted0 rfl) _ rfl _ (eval_of 23 _ (by kernel_rfl) rfl) ⟨_, rfl, rfl, Below.refl _ _⟩
                    | 4, ho =>
                      obtain rfl := Option.some.inj ho
                      exact gstep_bin rfl (wanted0 rfl) _ _ _ _ _ rfl _ _ rfl (eval_at 160 3 _ (by kernel_rfl) (show 160 < 172 by decide) (hF 3 (by kernel_rfl))) _ (run_add100 W j2 (by omega) _ _) ⟨_, rfl, rfl, Below.refl _ _⟩
                    | n + 5, ho => omega
                  · intro x W hR hF
                    obtain ⟨g9, mp9, hv9, hM9, hg9, hm9⟩ := hF 1 (by decide)
                    have bQ := (HDW.out W hR).1
                    have hWs := (HDW.out W hR).2.2
                    refine gstep_call4 rfl (wanted0 rfl) _ _ _ _ _ _ rfl _ _ _ _ (eval_at 157 0 _ (by kernel_rfl) (show 157 < 172 by decide) (hF 0 (by decide))) (eval_at 158 1 _ (by kernel_rfl) (show 158 < 172 by decide) hv9) (eval_at 159 2 _ (by kernel_rfl) (show 159 < 172 by decide) (hF 2 (by decide))) (eval_at 161 4 _ (by kernel_rfl) (show 161 < 172 by decide) (hF 4 (by decide))) (call_do4 W _ _ _ _) ?_
                    refine (do_two w.heap.size (40 + j2) tb mb k2 c2 T2 rootT mp9 g9 1 [([47], Nd.zero)] q (.slice fa q.path.length fcap) (100 + (j2 : Int)) W ⟨HT2.out.below bQ, hM9, Rep.root, HK2.out.1, SmallK.root.mono (by omega), HK2.out.2.1, HK2.out.2.2, KeysOk.root, ParOk.root, ⟨by omega, by omega, by omega, by omega⟩, ⟨hab1, hab2, by omega, by omega, by omega⟩⟩ (by omega) (by decide) (by omega) (by omega) hf2 ⟨HPV.out.1.below bQ, HPV.out.2⟩ hf1 hf3).mono ?_
                    rintro e W9 ⟨⟨bv, rfl⟩, b9, K9, T9, c9, H9, hc9, hS9, hB9⟩
                    refine ⟨_, rfl, ?_⟩
                    unfold tailK
                    simp only [putAll, Act.put, List.setIfInBounds_toArray, List.set_cons_succ, List.set_cons_zero]
                    have HT9 := Lib.hid H9
                    have HK9 : Hid (SmallK (40 + (j2 + 1)) T9 ∧ KeysOk T9 ∧ ParOk T9) := Lib.hid ⟨hS9, hB9.keys HK2.out.2.1, hB9.par HK2.out.2.2⟩
                    have HK19 : Hid (K1 w17 W9 mb) := Lib.hid ((HK1.out.below bQ).three K9 (by omega) (by omega))
                    have HB9 : Hid (Below w.heap.size w W9) := Lib.hid ((HB2.out.trans (bQ.mono HB2.out.size)).trans b9)
                    clear b9 K9 H9 hS9 hB9 bQ hM9 hF hR HDW HT2 HK2 HK1 HB2 HPV
                    go_wp2_with fail
                    go_roundw
                    case rel => exact ⟨j2 + 1, k2 + 2, c9, T9, by omega, by omega, by omega, by go_num, HT9, HK9, HK19, HB9⟩
                    case measure => simp [intOf]; omega
                · have hlt2 : decide ((j2 : Int) < (zs.length : Int)) = false := by simp; omega
                  have HSM := Lib.hid (samem_any tc mc k T 0 mp g cap L wr (HC17.out.k1 HK1.out hcu.1 hcu.2.1) (HM17.out.k1 HK1.out hne.1 hne.2) HTW.out.rep (by omega) HKP.out.1 (keys_small HKP.out.1))
                  have hU := HU17.out.k1 HK1.out hcu.2.2.1 hcu.2.2.2
                  have hM := HM17.out.k1 HK1.out hne.1 hne.2
                  have HSM2 := Lib.hid (fun (W : World) (hW : Below wr.heap.size wr W) => samem_any tu mu ku T 0 mp g cap L W (hU.below hW) (hM.below hW) HTW.out.rep (by omega) HKP.out.1 (keys_small HKP.out.1))
                  clear hU hM
                  go_wp2_with fail
                  refine HSM.out.mono ?_
                  rintro e w18 ⟨rfl, b18⟩
                  go_wp2_with fail
                  refine (HSM2.out _ b18).mono ?_
                  rintro e w19 ⟨rfl, b19⟩
                  go_wp2_with fail
                  go_ret
                  exact ⟨rfl, HB2.out.trans ((b18.trans (b19.mono b18.size)).mono HB2.out.size)⟩
end Go.Proofs.YtblcpihfnpgfiaaGreatDoor
