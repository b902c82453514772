/- WatchBytes: a book as bytes, and back. No conditions beyond those in each statement. -/
import Derived.Test.YtbbdokfankgllaaGreatDoorWByM
import Derived.Test.YtbbdokfankgllaaGreatDoorWSame
import Derived.Test.YtbbdokfankgllaaGreatDoorWPNew
import Derived.Test.YtbbdokfankgllaaGreatDoorWClone
namespace Go.Proofs.YtbbdokfankgllaaGreatDoor
open Go.RowKit Go.Maps Go.Shelf
set_option linter.unusedVariables false
set_option linter.unusedSimpArgs false
set_option maxRecDepth 100000

theorem read_st2 (s : ByteArray) (w : World) (hs : s.size ≤ 140737488355328) : Calls Tryz.prog 9 #[.string s] w fun e w' => e = .returned (.pointer (some ⟨w.heap.size, 0, none⟩)) ∧ Rs w' w.heap.size (some s.data.toList) ∧ Below w.heap.size w w' :=
  (read_any s w).mono fun e w' ⟨h1, h2, h3, _⟩ => ⟨h1, ⟨by rw [arr_mk]; exact h2, by rw [← Lib.size_eq]; exact hs⟩, h3⟩
theorem readB_fail2 {st : RS} (h : okF (readB st).st = false) : (readB st).W = [] ∧ (readB st).E = [] ∧ (readB st).N = (fun _ => none) := by
  cases hS : okF (readLs (readEs (readWs st).st).st).st with
  | true => rw [readB_good hS] at h; rw [h] at hS; cases hS
  | false => rw [readB_bad hS]; exact ⟨rfl, rfl, rfl⟩
theorem flat_congr2 {α : Type} {f g : α → List UInt8} : ∀ {L : List α}, (∀ e ∈ L, f e = g e) → L.flatMap f = L.flatMap g
  | [], _ => rfl
  | a :: l, h => by rw [List.flatMap_cons, List.flatMap_cons, h a (by simp), flat_congr2 (fun e he => h e (by simp [he]))]
theorem layN_zs (W : List Wa) (E : List Ev) (N : Int → Option Int) (zs : List Int) : layN W E N zs = layB W E (zs.map (fun z => (z, (N z).getD 0))) := by
  unfold layN layB lsE
  rw [List.length_map, List.flatMap_map]
  have : (fun z => lsZ N z) = fun z => numE z ++ numE ((N z).getD 0) := by
    funext z
    unfold lsZ
    rw [numsE_two]
  simp only [numsE, List.flatMap_cons, List.flatMap_nil, List.append_nil, List.append_assoc]
  rw [show zs.flatMap (lsZ N) = zs.flatMap (fun z => numE z ++ numE ((N z).getD 0)) from flat_congr2 (fun z _ => by unfold lsZ; rw [numsE_two])]
theorem LayI.ok {S : Sb} {kk : Nat} (h : LayI S kk) (hk : kk ≤ 100000) : LayOk S.ws S.es S.n := by
  refine ⟨fun x hx => ?_, fun x hx => ?_, fun z v hz => ?_⟩
  · have h1 := (h.wg x hx).pos
    have h2 := (h.wg x hx).2.2
    have h3 := (h.wg x hx).size
    unfold InR; omega
  · have := h.eg x hx
    unfold EvG at this
    unfold InR; omega
  · have := h.ng z v hz
    unfold InR; omega
theorem LayI.few {S : Sb} {kk c : Nat} {zs : List Int} (h : LayI S kk) (hz : IdsOf S.n c zs) : c ≤ 7 := by
  have hup : zs.Pairwise (· < ·) := hz.sorted.imp (fun h => by omega)
  rw [← hz.len]
  rcases few_up 7 zs 1 hup (fun z hz2 => by obtain ⟨v2, hv2⟩ := Option.isSome_iff_exists.1 ((hz.mem z).1 hz2); have := h.ng z v2 hv2; omega) with e | e
  · omega
  · rw [e]; simp
theorem layB_len (W : List Wa) (E : List Ev) (L : List (Int × Int)) (h1 : W.length ≤ 40) (h2 : E.length ≤ 1000) (h3 : L.length ≤ 7) : 6 ≤ (layB W E L).length ∧ (layB W E L).length ≤ 100000000 := by
  have a1 := flat_len waE_len W
  have a2 := flat_len evE_len E
  have a3 : (lsE L).length ≤ 65600 * L.length := flat_len (f := fun e : Int × Int => numE e.1 ++ numE e.2) (fun x => by rw [List.length_append, numE_length, numE_length]; omega) L
  unfold layB
  simp only [List.length_append, numE_length]
  omega
theorem i64_and16w (n : Int) : bits .and .i64 n 65535 = n % 65536 := by
  have h127 : (BitVec.ofInt 64 65535).toNat = 2 ^ 16 - 1 := by decide
  have key : (BitVec.ofInt 64 n &&& BitVec.ofInt 64 65535).toNat = (n % ((2 ^ 64 : Nat) : Int)).toNat % 2 ^ 16 := by
    rw [BitVec.toNat_and, BitVec.toNat_ofInt, h127, Nat.and_two_pow_sub_one_eq_mod]
  show IntKind.i64.wrap ((BitVec.ofInt 64 n &&& BitVec.ofInt 64 65535).toNat : Nat) = n % 65536
  rw [key, IntKind.wrap_i64]
  omega
theorem BkW.lessB {w : World} {base bb b0 : Nat} {vw ve vm : Value} {Ws : List Wa} {Es : List Ev} {k c : Nat} {N : Int → Option Int} (h : BkW w base bb vw ve vm Ws Es k c N) (hb : b0 ≤ base) : BkW w b0 bb vw ve vm Ws Es k c N :=
  ⟨h.box, ownsRow_less h.ws hb, ownsRow_less h.es hb, h.last.imp id (fun ⟨q, h1, h2, h3⟩ => ⟨q, h1, h2, Nat.le_trans hb h3⟩), Nat.le_trans hb h.lo.1, Nat.le_trans hb h.lo.2⟩
/-- A new book beside an old model. -/
theorem pair_of {w wo : World} {base b0 cb mb k1 c1 k2 c2 kk : Nat} {vw ve vm uw ue um : Value} {Ws Wm : List Wa} {Es Em : List Ev} {N Nm : Int → Option Int} (hb : BkW w b0 cb vw ve vm Ws Es k1 c1 N) (hm : MoW wo base mb uw ue um Wm Em k2 c2 Nm) (hw : Below wo.heap.size wo w) (h0 : wo.heap.size ≤ b0) (hk1 : k1 ≤ kk) (hk2 : k2 ≤ kk) : ∃ O, PairW w base cb mb kk O Ws Es N Wm Em Nm :=
  ⟨_, vw, ve, vm, k1, c1, uw, ue, um, k2, c2, hb.lessB (Nat.le_trans hm.lo.2 h0), hm.below hw, fun b h1 h2 => by have := (hb.own_lt h1).2; have := (hm.own_lo h2).1; omega, fun b => Iff.rfl, hk1, hk2⟩
theorem mo_new (w : World) : MoW (w.alloc (.cells #[.slice none 0 0, .slice none 0 0, .map none] 32)) w.heap.size w.heap.size (.slice none 0 0) (.slice none 0 0) (.map none) [] [] 0 0 (fun _ => none) :=
  ⟨heap_alloc_new w _, World.ownsRow_nil _ _ _ _, World.ownsRow_nil _ _ _ _, .inl ⟨rfl, rfl, rfl⟩, Nat.le_refl _, ((Below.refl _ w).alloc (Nat.le_refl _) _).size⟩
set_option maxHeartbeats 64000000 in
theorem bytes_walk (a : Option Addr) (cap : Nat) (qs : List Aq) (a2 : Option Addr) (cap2 : Nat) (zs : List Aq) (cut : Int) (w : World) (hA : Acts11 w (.slice a qs.length cap) qs) (hZ : Acts11 w (.slice a2 zs.length cap2) zs) :
    Calls Tryz.prog 3 #[.slice a qs.length cap, .slice a2 zs.length cap2, .int .i64 cut] w fun e w' => e = .returned (.bool true) ∧ Below w.heap.size w w' := by
  have HH := Lib.hid (fun W => head_any W)
  have HACT := Lib.hid hA
  have HACZ := Lib.hid hZ
  obtain ⟨u, hu, hu16⟩ : ∃ u : Nat, bits .and .i64 cut 65535 = (u : Int) ∧ u < 65536 := ⟨(cut % 65536).toNat, by rw [i64_and16w]; omega, by omega⟩
  clear hA hZ
  go_enter Tryz.func3, Tryz.ntmps3
  go_wp2_with fail
  refine (HH.out _).mono ?_
  rintro e w2 ⟨rfl, b2⟩
  have HF := Lib.hid (few11_any a cap qs w2 (HACT.out.below b2))
  have HB2 := Lib.hid b2
  clear b2 HH
  go_wp2_with fail
  refine HF.out.mono ?_
  rintro e w3 ⟨rfl, b3⟩
  have HB3 : Hid (Below w.heap.size w w3) := Lib.hid (HB2.out.trans (b3.mono HB2.out.size))
  have HFZ := Lib.hid (few11_any a2 cap2 zs w3 (HACZ.out.below HB3.out))
  clear b3 HF HB2
  cases hfew : few11 qs with
  | false =>
    go_wp2_with fail
    go_ret
    exact ⟨rfl, HB3.out⟩
  | true =>
    have HFEW := Lib.hid hfew
    clear hfew
    go_wp2_with fail
    refine HFZ.out.mono ?_
    rintro e w3b ⟨rfl, b3b⟩
    have HB3b : Hid (Below w.heap.size w w3b) := Lib.hid (HB3.out.trans (b3b.mono HB3.out.size))
    clear b3b HFZ HB3
    cases hfew : few11 zs with
    | false =>
      go_wp2_with fail
      go_ret
      exact ⟨rfl, HB3b.out⟩
    | true =>
      have HFEZ := Lib.hid hfew
      clear hfew
      have HN := Lib.hid (bnew_any w3b)
      go_wp2_with fail
      refine HN.out.mono ?_
      rintro e w4 ⟨rfl, hk4, b4⟩
      obtain ⟨bb, hbb⟩ : ∃ bb, bb = w3b.heap.size := ⟨_, rfl⟩
      have hbase : w.heap.size ≤ bb := by rw [hbb]; exact HB3b.out.size
      rw [← hbb] at hk4 ⊢
      have hp := pair_new hk4
      have bA := (Below.refl w4.heap.size w4).alloc (Nat.le_refl _) (.cells #[.slice none 0 0, .slice none 0 0, .map none] 32)
      have HB5 : Hid (Below w.heap.size w (w4.alloc (.cells #[.slice none 0 0, .slice none 0 0, .map none] 32))) := Lib.hid (HB3b.out.trans ((b4.trans (bA.mono b4.size)).mono HB3b.out.size))
      have hq60 : qs.length ≤ 60 := by
        by_cases h0 : 0 < qs.length
        · exact (few11_at HFEW.out h0).2
        · omega
      have hz60 : zs.length ≤ 60 := by
        by_cases h0 : 0 < zs.length
        · exact (few11_at HFEZ.out h0).2
        · omega
      have HP5 := Lib.hid hp
      clear HN hk4 b4 hp bA hbb
      go_upto_region 7 with fail
      obtain ⟨w5, hw5⟩ : ∃ w5, w5 = w4.alloc (.cells #[.slice none 0 0, .slice none 0 0, .map none] 32) := ⟨_, rfl⟩
      obtain ⟨mb, hmb⟩ : ∃ mb, mb = w4.heap.size := ⟨_, rfl⟩
      rw [← hw5, ← hmb] at HP5
      rw [← hw5] at HB5 ⊢
      rw [← hmb]
      clear hw5 hmb
      go_wp2_with fail
      go_loopw [37] (fun iv wr => ∃ (j : Nat) (O : Nat → Prop) (S : Sb), j ≤ qs.length ∧ iv = .int .i64 j ∧ Hid (PairW wr bb bb mb (80 * j) O S.ws S.es S.n S.ws S.es S.n) ∧ Hid (SbOk S (80 * j)) ∧ Hid (LayI S (40 * j)) ∧ Hid (Below w.heap.size w wr)) (fun iv _ => qs.length - (intOf iv).toNat)
      case atStart => exact ⟨0, _, sb0, by omega, rfl, HP5, Lib.hid sb0_ok, Lib.hid layI0, HB5⟩
      case round =>
        obtain ⟨j, O, S, hj, rfl, HP, HS, HLI, HB⟩ := hrel
        clear HP5 HB5
        by_cases hlt : j < qs.length
        · have hlt2 : decide ((j : Int) < (qs.length : Int)) = true := by simp; omega
          obtain ⟨hok, hpv, ga, off, rfl, h0, h1, h2, h3, h4, h5⟩ := act11_at HACT.out HB.out hlt
          have hf12 := (few11_at HFEW.out hlt).1
          have HPV := Lib.hid hpv
          have t2 : IntKind.i64.wrap ((j : Int) + 1) = (j : Int) + 1 := IntWalk.i64_in _ (by omega)
          have t3 : IntKind.i64.wrap (100 + (j : Int)) = 100 + (j : Int) := IntWalk.i64_in _ (by omega)
          have hj0 : (0 : Int) ≤ (j : Int) := by omega
          have hji : (j : Int) < (qs.length : Int) := by omega
          clear hok
          generalize qs.getD j aq0 = y at *
          obtain ⟨fa, fcap, hfv, _, hfm, _⟩ := hpv.1
          obtain ⟨q, pv⟩ := y
          simp only at *
          subst hfv
          clear hpv hfm
          have bA := (Below.refl _ wr).alloc (Nat.le_refl _) (.cells #[.int .i64 q.k, .int .i64 q.ses, .int .i64 q.n, .slice fa q.path.length fcap, .bool q.kids, .bool q.once] 35)
          have N8 := heap_alloc_new wr (.cells #[.int .i64 q.k, .int .i64 q.ses, .int .i64 q.n, .slice fa q.path.length fcap, .bool q.kids, .bool q.once] 35)
          go_upto_region 10 with fail
          obtain ⟨w8, hw8⟩ : ∃ w8, w8 = wr.alloc (.cells #[.int .i64 q.k, .int .i64 q.ses, .int .i64 q.n, .slice fa q.path.length fcap, .bool q.kids, .bool q.once] 35) := ⟨_, rfl⟩
          rw [← hw8] at bA N8 ⊢
          have c0 : w8.cell? ⟨wr.heap.size, 0, none⟩ = some (.int .i64 q.k) := by simp [World.cell?, N8]
          have c1 : w8.cell? ⟨wr.heap.size, 1, none⟩ = some (.int .i64 q.ses) := by simp [World.cell?, N8]
          have c2 : w8.cell? ⟨wr.heap.size, 2, none⟩ = some (.int .i64 q.n) := by simp [World.cell?, N8]
          have c3 : w8.cell? ⟨wr.heap.size, 3, none⟩ = some (.slice fa q.path.length fcap) := by simp [World.cell?, N8]
          have c4 : w8.cell? ⟨wr.heap.size, 4, none⟩ = some (.bool q.kids) := by simp [World.cell?, N8]
          have c5 : w8.cell? ⟨wr.heap.size, 5, none⟩ = some (.bool q.once) := by simp [World.cell?, N8]
          have hdo := do_any bb bb mb (80 * j) O S q fa fcap ((j : Int) + 1) w8 (HP.out.below bA) HS.out (by omega) ⟨HPV.out.1.below bA, HPV.out.2⟩ hf12
          have HDO := Lib.hid hdo
          have HB8 : Hid (Below w.heap.size w w8) := Lib.hid (HB.out.trans (bA.mono HB.out.size))
          have HLO := Lib.hid (HP.out.below bA).lo
          have HS2 : Hid (SbOk (doS q ((j : Int) + 1) S) (80 * (j + 1))) := Lib.hid ((HS.out.step q _ hf12).mono (by omega))
          have HLI2 : Hid (LayI (doS q ((j : Int) + 1) S) (40 * (j + 1))) := Lib.hid ((HLI.out.step HS.out (by omega) q _ (by omega) hf12).mono (by omega))
          clear hw8 h0 h1 h2 h3 h4 h5 N8 HP HB bA HPV hdo HS HLI
          go_wp2_with fail
          refine HDO.out.mono ?_
          rintro e w9 ⟨rfl, O9, hp9, hf9⟩
          have HP9 := Lib.hid (hp9.mono (show 80 * j + 80 ≤ 80 * (j + 1) by omega))
          have HB9 : Hid (Below w.heap.size w w9) := Lib.hid (HB8.out.trans ((hf9.below (fun b hb => (HLO.out.1 b hb).1) HLO.out.2).mono hbase))
          clear hp9 hf9 HB8 HDO HLO c0 c1 c2 c3 c4 c5
          go_wp2_with fail
          go_roundw
          case rel => exact ⟨j + 1, O9, _, by omega, by go_num, HP9, HS2, HLI2, HB9⟩
          case measure => simp [intOf]; omega
        · have hlt2 : decide ((j : Int) < (qs.length : Int)) = false := by simp; omega
          obtain ⟨wE, hwE⟩ : ∃ wE, wE = wr := ⟨_, rfl⟩
          rw [← hwE] at HP HB ⊢
          clear hwE
          have hj60 : j ≤ 60 := by omega
          have HSB : Hid (SbOk S 4800) := Lib.hid (HS.out.mono (by omega))
          have HLY : Hid (LayI S 2400) := Lib.hid (HLI.out.mono (by omega))
          have HPE : Hid (PairW wE bb bb mb 4800 O S.ws S.es S.n S.ws S.es S.n) := Lib.hid (HP.out.mono (by omega))
          obtain ⟨vw, ve, vm, kb, cb, uw, ue, um, km, cm, hbk, hmo, _, _, hkb, hkm⟩ := HPE.out
          obtain ⟨xa, xc, rfl, _, _⟩ := evV_form hmo.es
          have x1 := hmo.c1
          have HBK := Lib.hid hbk
          have HMO := Lib.hid hmo
          have HKB : Hid (kb ≤ 4800) := Lib.hid hkb
          have HKM : Hid (km ≤ 4800) := Lib.hid hkm
          clear HP HS HLI hbk hmo hkb hkm
          by_cases h1000 : 1000 < S.es.length
          · have d1 : decide ((1000 : Int) < (S.es.length : Int)) = true := by simp; omega
            go_wp2_with fail
            go_ret
            exact ⟨rfl, HB.out⟩
          · have d1 : decide ((1000 : Int) < (S.es.length : Int)) = false := by simp; omega
            have hes : S.es.length ≤ 1000 := by omega
            obtain ⟨ids, hids⟩ := ids_any HBK.out
            have hc7 := HLY.out.few hids
            have hbks := HLY.out.bks HSB.out (by omega) hes hids
            have hwl := HSB.out.l40
            obtain ⟨L, hL⟩ : ∃ L, L = ids.map (fun z => (z, (S.n z).getD 0)) := ⟨_, rfl⟩
            rw [← hL] at hbks
            obtain ⟨l, hl⟩ : ∃ l, l = layB S.ws S.es L := ⟨_, rfl⟩
            have hL7 : L.length ≤ 7 := by rw [hL, List.length_map, hids.len]; exact hc7
            have hlen := layB_len S.ws S.es L hwl hes hL7
            rw [← hl] at hlen
            have HLEN := Lib.hid hlen
            have hful := readB_full hbks HLY.out.wg []
            rw [List.append_nil, ← hl] at hful
            have HFUL := Lib.hid hful
            have hcutB := readB_cut hbks HLY.out.wg
            rw [← hl] at hcutB
            have HCUT := Lib.hid hcutB
            have HLAY : Hid (∀ c zz, IdsOf S.n c zz → layN S.ws S.es S.n zz = l) := Lib.hid (fun c zz hz => by
              rw [layN_zs, ids_eq hz hids, ← hL, ← hl])
            have HLBY := Lib.hid (blay_any bb bb vw _ vm S.ws S.es kb cb S.n wE HBK.out (HLY.out.ok (by omega)) (by omega) (by omega) (by omega))
            clear hids hc7 hbks hL hl hL7 hlen hful hcutB hwl h1000
            go_wp2_with fail
            refine HLBY.out.mono ?_
            rintro e w6 ⟨v6, z6, rfl, hI6, B6, b6⟩
            rw [HLAY.out cb z6 hI6] at B6
            have hconv := run_str B6.src
            obtain ⟨Sx, hSx⟩ : ∃ Sx : ByteArray, Sx = ⟨l.toArray⟩ := ⟨_, rfl⟩
            rw [← hSx] at hconv
            obtain ⟨nl, hnl⟩ : ∃ nl, nl = l.length := ⟨_, rfl⟩
            have hSn : Sx.size = nl := by rw [hSx, size_arr, hnl]
            have HSX := Lib.hid hSx
            have HNL := Lib.hid hnl
            have HRD := Lib.hid (read_st2 Sx w6 (by rw [hSn, hnl]; have := HLEN.out; omega))
            have HB6 : Hid (Below wE.heap.size wE w6) := Lib.hid b6
            clear B6 hI6 HLBY b6 hSx hnl
            go_wp2_with fail
            refine HRD.out.mono ?_
            rintro e w7 ⟨rfl, R7, b7⟩
            obtain ⟨rb, hrb⟩ : ∃ rb, rb = w6.heap.size := ⟨_, rfl⟩
            rw [← hrb] at R7 ⊢
            rw [HSX.out, show ((⟨l.toArray⟩ : ByteArray).data.toList) = l by simp] at R7
            have HB7 : Hid (Below wE.heap.size wE w7) := Lib.hid (HB6.out.trans (b7.mono HB6.out.size))
            have HRB : Hid (wE.heap.size ≤ rb) := Lib.hid (by rw [hrb]; exact HB6.out.size)
            have hbr := bread_any rb (some l) w7 R7
            rw [HFUL.out] at hbr
            have HBR := Lib.hid hbr
            clear HRD R7 b7 hrb hbr HB6 hconv
            go_wp2_with fail
            refine HBR.out.mono ?_
            rintro e w8 ⟨base8, cbk, vw8, ve8, vm8, k8, c8, rfl, K8, R8, g8, hb8, hk8⟩
            have HB8 : Hid (Below wE.heap.size wE w8) := Lib.hid (HB7.out.grown g8 HB7.out.size (fun q hq => by cases hq; exact HRB.out))
            obtain ⟨Oc, hpc⟩ := pair_of K8 HMO.out HB8.out (Nat.le_trans HB7.out.size hb8) (show k8 ≤ 4800 by omega) HKM.out
            have HPC := Lib.hid hpc
            have HK8 := Lib.hid K8
            have HDN := Lib.hid (done_rs rb (some []) w8 R8)
            rw [show doneF (some []) = 0 from rfl] at HDN
            have HSM := Lib.hid (same_any bb cbk mb 4800 Oc S.ws S.es S.n w8 hpc HSB.out.l40 (by have := HSB.out.les; omega))
            clear K8 R8 g8 hb8 hk8 hpc HBR HB7 HRB
            go_wp2_with fail
            refine HDN.out.mono ?_
            rintro e w9 ⟨rfl, hw⟩
            obtain rfl := hw
            go_wp2_with fail
            refine HSM.out.mono ?_
            rintro e w10 ⟨rfl, b10⟩
            have HB10 := Lib.hid b10
            have HLC := Lib.hid (blay_any base8 cbk vw8 ve8 vm8 S.ws S.es k8 c8 S.n w10 (HK8.out.below b10) (HLY.out.ok (by omega)) (by have := HSB.out.l40; omega) (by omega) (by obtain ⟨z8, hz8⟩ := ids_any HK8.out; have := HLY.out.few hz8; omega))
            clear HDN HSM b10
            go_wp2_with fail
            refine HLC.out.mono ?_
            rintro e w11 ⟨v11, z11, rfl, hI11, B11, b11⟩
            rw [HLAY.out c8 z11 hI11] at B11
            have hconv := run_str B11.src
            rw [← HSX.out] at hconv
            have HB11 := Lib.hid (HB10.out.trans (b11.mono HB10.out.size))
            have eS : (Sx.toList == Sx.toList) = true := by simp
            have hnz : ¬ (nl : Int) = 0 := by have := HLEN.out; have := HNL.out; omega
            have hb0 : (0 : Int) ≤ (u : Int) % (nl : Int) := Int.emod_nonneg _ hnz
            have hb1 : (u : Int) % (nl : Int) ≤ (nl : Int) := Int.le_of_lt (Int.emod_lt_of_pos _ (by omega))
            have HNlt : Hid (u % nl < nl) := Lib.hid (Nat.mod_lt _ (by omega))
            clear HLC B11 hI11 b11 HB10
            go_wp2_with fail
            obtain ⟨N, hN⟩ : ∃ N, N = u % nl := ⟨_, rfl⟩
            rw [← hN] at HNlt ⊢
            have hcut : Sx.extract 0 N = ⟨(l.take N).toArray⟩ := by rw [HSX.out, extract_head]
            obtain ⟨S2, hS2⟩ : ∃ S2, S2 = Sx.extract 0 N := ⟨_, rfl⟩
            rw [← hS2] at hcut ⊢
            have HRD2 := Lib.hid (read_st2 S2 w11 (by rw [hcut, size_arr, List.length_take]; have := HLEN.out; omega))
            have HCT := Lib.hid hcut
            have HN2 : Hid (N < l.length) := Lib.hid (by rw [← HNL.out]; exact HNlt.out)
            clear hN hb0 hb1 hS2 hcut hconv eS hnz HNlt
            refine HRD2.out.mono ?_
            rintro e w12 ⟨rfl, R12, b12⟩
            obtain ⟨rs, hrs⟩ : ∃ rs, rs = w11.heap.size := ⟨_, rfl⟩
            rw [← hrs] at R12 ⊢
            rw [HCT.out, show ((⟨(l.take N).toArray⟩ : ByteArray).data.toList) = l.take N by simp] at R12
            have HB12 := Lib.hid (HB11.out.trans (b12.mono HB11.out.size))
            have HRS : Hid (w8.heap.size ≤ rs) := Lib.hid (by rw [hrs]; exact HB11.out.size)
            have hbr := bread_any rs (some (l.take N)) w12 R12
            have hcf := HCUT.out N HN2.out
            obtain ⟨f1, f2, f3⟩ := readB_fail2 hcf
            have HCF := Lib.hid hcf
            have HW0 := Lib.hid f1
            have HBR := Lib.hid hbr
            clear HRD2 R12 b12 hrs hbr hcf f1 f2 f3 HB11
            go_wp2_with fail
            refine HBR.out.mono ?_
            rintro e w13 ⟨base13, vb, vw13, ve13, vm13, k13, c13, rfl, K13, R13, g13, hb13, hk13⟩
            have HB13 : Hid (Below w8.heap.size w8 w13) := Lib.hid (HB12.out.grown g13 HB12.out.size (fun q hq => by cases hq; exact HRS.out))
            have HOK := Lib.hid (ok_rs rs _ w13 R13)
            rw [HCF.out] at HOK
            rw [HW0.out] at K13
            have HWV := Lib.hid (watches_any base13 vb vw13 ve13 vm13 [] _ k13 c13 _ w13 K13 (by simp))
            clear K13 R13 g13 hb13 hk13 HBR HB12 HRS
            go_wp2_with fail
            refine HOK.out.mono ?_
            rintro e w14 ⟨rfl, hw⟩
            obtain rfl := hw
            go_wp2_with fail
            refine HWV.out.mono ?_
            rintro e w15 ⟨v15, rfl, hr15, b15⟩
            obtain ⟨ra, rc, hv15, _, _⟩ := waV_form hr15
            simp only [List.length_nil] at hv15
            subst hv15
            have HB15 := Lib.hid (HB13.out.trans (b15.mono HB13.out.size))
            have HBE15 : Hid (Below wE.heap.size wE w15) := Lib.hid (HB8.out.trans (HB15.out.mono HB8.out.size))
            have HCL := Lib.hid (bclone_any bb bb vw _ vm S.ws S.es kb cb S.n w15 (HBK.out.below HBE15.out) (by have := HSB.out.l40; omega) (by have := HSB.out.les; omega))
            clear hr15 b15 HOK HWV HB13
            go_wp2_with fail
            refine HCL.out.mono ?_
            rintro e w16 ⟨db, v1, v2, v3, rfl, K16, b16⟩
            have bA := (Below.refl w16.heap.size w16).alloc (Nat.le_refl _) (.cells #[.slice none 0 0, .slice none 0 0, .map none] 32)
            have hmn := mo_new w16
            have hds : PairW (w16.alloc (.cells #[.slice none 0 0, .slice none 0 0, .map none] 32)) w15.heap.size db w16.heap.size 4800 (fun b => OwnM db v1 v2 v3 b ∨ OwnM w16.heap.size (.slice none 0 0) (.slice none 0 0) (.map none) b) S.ws S.es S.n sb0.ws sb0.es sb0.n := by
              refine ⟨v1, v2, v3, kb, cb, .slice none 0 0, .slice none 0 0, .map none, 0, 0, K16.below bA, ⟨hmn.box, ownsRow_less hmn.ws b16.size, ownsRow_less hmn.es b16.size, .inl ⟨rfl, rfl, rfl⟩, b16.size, Nat.le_trans b16.size bA.size⟩, fun b h1 h2 => ?_, fun b => Iff.rfl, HKB.out, by omega⟩
              have q1 := (K16.own_lt h1).1
              have q2 : b = w16.heap.size := by
                unfold OwnM at h2
                simpa [Value.ownBlock] using h2
              omega
            have HDS := Lib.hid hds
            have HBD : Hid (Below w15.heap.size w15 (w16.alloc (.cells #[.slice none 0 0, .slice none 0 0, .map none] 32))) := Lib.hid (b16.trans (bA.mono b16.size))
            clear K16 b16 bA hmn hds HCL
            go_upto_region 25 with fail
            obtain ⟨w17, hw17⟩ : ∃ w17, w17 = w16.alloc (.cells #[.slice none 0 0, .slice none 0 0, .map none] 32) := ⟨_, rfl⟩
            obtain ⟨sb, hsb⟩ : ∃ sb, sb = w16.heap.size := ⟨_, rfl⟩
            obtain ⟨D0, hD0⟩ : ∃ D0, D0 = w15.heap.size := ⟨_, rfl⟩
            have HD0 := Lib.hid hD0
            rw [← hw17, ← hsb, ← hD0] at HDS
            rw [← hw17, ← hD0] at HBD
            rw [← hw17, ← hsb]
            clear hw17 hsb hD0
            have HBE : Hid (Below w.heap.size w wE) := HB
            clear HB
            go_wp2_with fail
            go_loopw [102] (fun iv wy => ∃ (j : Nat) (O : Nat → Prop) (A B : Sb), j ≤ zs.length ∧ iv = .int .i64 j ∧ Hid (PairW wy D0 db sb (4800 + 80 * j) O A.ws A.es A.n B.ws B.es B.n) ∧ Hid (SbOk A (4800 + 80 * j)) ∧ Hid (SbOk B (4800 + 80 * j)) ∧ Hid (Below D0 w15 wy)) (fun iv _ => zs.length - (intOf iv).toNat)
            case atStart => exact ⟨0, _, S, sb0, by omega, rfl, HDS, HSB, Lib.hid (sb0_ok.mono (by omega)), HBD⟩
            case round =>
              clear HDS HBD
              obtain ⟨j, OD, A, B, hj, rfl, HDS, HSA, HSB2, HBD⟩ := hrel
              have HBW2 : Hid (Below w.heap.size w wr) := Lib.hid (HBE.out.trans ((HBE15.out.trans (HBD.out.mono (by have := HD0.out; have := HBE15.out.size; omega))).mono HBE.out.size))
              by_cases hlt : j < zs.length
              · have hlt2 : decide ((j : Int) < (zs.length : Int)) = true := by simp; omega
                obtain ⟨hok, hpv, ga, off, rfl, h0, h1, h2, h3, h4, h5⟩ := act11_at HACZ.out HBW2.out hlt
                have hf12 := (few11_at HFEZ.out hlt).1
                have HPV := Lib.hid hpv
                have t2 : IntKind.i64.wrap ((j : Int) + 1) = (j : Int) + 1 := IntWalk.i64_in _ (by omega)
                have t3 : IntKind.i64.wrap (100 + (j : Int)) = 100 + (j : Int) := IntWalk.i64_in _ (by omega)
                have hj0 : (0 : Int) ≤ (j : Int) := by omega
                have hji : (j : Int) < (zs.length : Int) := by omega
                clear hok
                generalize zs.getD j aq0 = y at *
                obtain ⟨fa, fcap, hfv, _, hfm, _⟩ := hpv.1
                obtain ⟨q, pv⟩ := y
                simp only at *
                subst hfv
                clear hpv hfm
                have bA := (Below.refl _ wr).alloc (Nat.le_refl _) (.cells #[.int .i64 q.k, .int .i64 q.ses, .int .i64 q.n, .slice fa q.path.length fcap, .bool q.kids, .bool q.once] 35)
                have N8 := heap_alloc_new wr (.cells #[.int .i64 q.k, .int .i64 q.ses, .int .i64 q.n, .slice fa q.path.length fcap, .bool q.kids, .bool q.once] 35)
                go_upto_region 28 with fail
                obtain ⟨w8, hw8⟩ : ∃ w8, w8 = wr.alloc (.cells #[.int .i64 q.k, .int .i64 q.ses, .int .i64 q.n, .slice fa q.path.length fcap, .bool q.kids, .bool q.once] 35) := ⟨_, rfl⟩
                rw [← hw8] at bA N8 ⊢
                have c0 : w8.cell? ⟨wr.heap.size, 0, none⟩ = some (.int .i64 q.k) := by simp [World.cell?, N8]
                have c1 : w8.cell? ⟨wr.heap.size, 1, none⟩ = some (.int .i64 q.ses) := by simp [World.cell?, N8]
                have c2 : w8.cell? ⟨wr.heap.size, 2, none⟩ = some (.int .i64 q.n) := by simp [World.cell?, N8]
                have c3 : w8.cell? ⟨wr.heap.size, 3, none⟩ = some (.slice fa q.path.length fcap) := by simp [World.cell?, N8]
                have c4 : w8.cell? ⟨wr.heap.size, 4, none⟩ = some (.bool q.kids) := by simp [World.cell?, N8]
                have c5 : w8.cell? ⟨wr.heap.size, 5, none⟩ = some (.bool q.once) := by simp [World.cell?, N8]
                have hdo := do_gen D0 db sb (4800 + 80 * j) OD A B q fa fcap (100 + (j : Int)) w8 (HDS.out.below bA) HSA.out HSB2.out (by omega) ⟨HPV.out.1.below bA, HPV.out.2⟩ hf12
                have HDO := Lib.hid hdo
                have HLO := Lib.hid (HDS.out.below bA).lo
                have HBD8 : Hid (Below D0 w15 w8) := Lib.hid (HBD.out.trans (bA.mono HDS.out.lo.2))
                have HA2 : Hid (SbOk (doS q (100 + (j : Int)) A) (4800 + 80 * (j + 1))) := Lib.hid ((HSA.out.step q _ hf12).mono (by omega))
                have HB2 : Hid (SbOk (doS q (100 + (j : Int)) B) (4800 + 80 * (j + 1))) := Lib.hid ((HSB2.out.step q _ hf12).mono (by omega))
                clear hw8 h0 h1 h2 h3 h4 h5 N8 HDS HBD bA HPV hdo HSA HSB2 HBW2
                go_wp2_with fail
                refine HDO.out.mono ?_
                rintro e w9 ⟨rfl, O9, hp9, hf9⟩
                have HP9 := Lib.hid (hp9.mono (show 4800 + 80 * j + 80 ≤ 4800 + 80 * (j + 1) by omega))
                have HB9 : Hid (Below D0 w15 w9) := Lib.hid (HBD8.out.trans (hf9.below (fun b hb => (HLO.out.1 b hb).1) HLO.out.2))
                clear hp9 hf9 HBD8 HDO HLO c0 c1 c2 c3 c4 c5
                go_wp2_with fail
                go_roundw
                case rel => exact ⟨j + 1, O9, _, _, by omega, by go_num, HP9, HA2, HB2, HB9⟩
                case measure => simp [intOf]; omega
              · have hlt2 : decide ((j : Int) < (zs.length : Int)) = false := by simp; omega
                obtain ⟨wF, hwF⟩ : ∃ wF, wF = wr := ⟨_, rfl⟩
                rw [← hwF] at HBD HBW2 ⊢
                clear hwF
                have HBDF : Hid (Below w15.heap.size w15 wF) := Lib.hid (HBD.out.mono (by have := HD0.out; omega))
                have HSM := Lib.hid (same_any bb bb mb 4800 O S.ws S.es S.n wF (HPE.out.below (HBE15.out.trans (HBDF.out.mono HBE15.out.size))) HSB.out.l40 (by omega))
                clear HDS HSA HSB2 HBD
                go_wp2_with fail
                refine HSM.out.mono ?_
                rintro e w18 ⟨rfl, b18⟩
                have HPC18 := Lib.hid (HPC.out.below (HB15.out.trans ((HBDF.out.trans (b18.mono HBDF.out.size)).mono HB15.out.size)))
                have HB18 : Hid (Below w.heap.size w w18) := Lib.hid (HBW2.out.trans (b18.mono HBW2.out.size))
                clear HSM b18 HBDF HBW2 HPC HPE HB15 HBE15 HBE
                go_wp2_with fail
                go_loopw [120] (fun iv wy => ∃ (j : Nat) (O : Nat → Prop) (S : Sb), j ≤ zs.length ∧ iv = .int .i64 j ∧ Hid (PairW wy bb cbk mb (4800 + 80 * j) O S.ws S.es S.n S.ws S.es S.n) ∧ Hid (SbOk S (4800 + 80 * j)) ∧ Hid (Below w.heap.size w wy)) (fun iv _ => zs.length - (intOf iv).toNat)
                case atStart => exact ⟨0, Oc, S, by omega, rfl, HPC18, HSB, HB18⟩
                case round =>
                  clear HPC18 HB18
                  obtain ⟨j, O, S, hj, rfl, HP, HS, HB⟩ := hrel
                  by_cases hlt : j < zs.length
                  · have hlt2 : decide ((j : Int) < (zs.length : Int)) = true := by simp; omega
                    obtain ⟨hok, hpv, ga, off, rfl, h0, h1, h2, h3, h4, h5⟩ := act11_at HACZ.out HB.out hlt
                    have hf12 := (few11_at HFEZ.out hlt).1
                    have HPV := Lib.hid hpv
                    have t2 : IntKind.i64.wrap ((j : Int) + 1) = (j : Int) + 1 := IntWalk.i64_in _ (by omega)
                    have t3 : IntKind.i64.wrap (100 + (j : Int)) = 100 + (j : Int) := IntWalk.i64_in _ (by omega)
                    have hj0 : (0 : Int) ≤ (j : Int) := by omega
                    have hji : (j : Int) < (zs.length : Int) := by omega
                    clear hok
                    generalize zs.getD j aq0 = y at *
                    obtain ⟨fa, fcap, hfv, _, hfm, _⟩ := hpv.1
                    obtain ⟨q, pv⟩ := y
                    simp only at *
                    subst hfv
                    clear hpv hfm
                    have bA := (Below.refl _ wr).alloc (Nat.le_refl _) (.cells #[.int .i64 q.k, .int .i64 q.ses, .int .i64 q.n, .slice fa q.path.length fcap, .bool q.kids, .bool q.once] 35)
                    have N8 := heap_alloc_new wr (.cells #[.int .i64 q.k, .int .i64 q.ses, .int .i64 q.n, .slice fa q.path.length fcap, .bool q.kids, .bool q.once] 35)
                    go_upto_region 35 with fail
                    obtain ⟨w8, hw8⟩ : ∃ w8, w8 = wr.alloc (.cells #[.int .i64 q.k, .int .i64 q.ses, .int .i64 q.n, .slice fa q.path.length fcap, .bool q.kids, .bool q.once] 35) := ⟨_, rfl⟩
                    rw [← hw8] at bA N8 ⊢
                    have c0 : w8.cell? ⟨wr.heap.size, 0, none⟩ = some (.int .i64 q.k) := by simp [World.cell?, N8]
                    have c1 : w8.cell? ⟨wr.heap.size, 1, none⟩ = some (.int .i64 q.ses) := by simp [World.cell?, N8]
                    have c2 : w8.cell? ⟨wr.heap.size, 2, none⟩ = some (.int .i64 q.n) := by simp [World.cell?, N8]
                    have c3 : w8.cell? ⟨wr.heap.size, 3, none⟩ = some (.slice fa q.path.length fcap) := by simp [World.cell?, N8]
                    have c4 : w8.cell? ⟨wr.heap.size, 4, none⟩ = some (.bool q.kids) := by simp [World.cell?, N8]
                    have c5 : w8.cell? ⟨wr.heap.size, 5, none⟩ = some (.bool q.once) := by simp [World.cell?, N8]
                    have hdo := do_any bb cbk mb (4800 + 80 * j) O S q fa fcap (100 + (j : Int)) w8 (HP.out.below bA) HS.out (by omega) ⟨HPV.out.1.below bA, HPV.out.2⟩ hf12
                    have HDO := Lib.hid hdo
                    have HB8 : Hid (Below w.heap.size w w8) := Lib.hid (HB.out.trans (bA.mono HB.out.size))
                    have HLO := Lib.hid (HP.out.below bA).lo
                    have HS2 : Hid (SbOk (doS q (100 + (j : Int)) S) (4800 + 80 * (j + 1))) := Lib.hid ((HS.out.step q _ hf12).mono (by omega))
                    clear hw8 h0 h1 h2 h3 h4 h5 N8 HP HB bA HPV hdo HS
                    go_wp2_with fail
                    refine HDO.out.mono ?_
                    rintro e w9 ⟨rfl, O9, hp9, hf9⟩
                    have HP9 := Lib.hid (hp9.mono (show 4800 + 80 * j + 80 ≤ 4800 + 80 * (j + 1) by omega))
                    have HB9 : Hid (Below w.heap.size w w9) := Lib.hid (HB8.out.trans ((hf9.below (fun b hb => (HLO.out.1 b hb).1) HLO.out.2).mono hbase))
                    obtain ⟨S9, hS9⟩ : ∃ S9, S9 = doS q (100 + (j : Int)) S := ⟨_, rfl⟩
                    rw [← hS9] at HP9 HS2
                    have HSM := Lib.hid (same_any bb cbk mb _ O9 S9.ws S9.es S9.n w9 HP9.out HS2.out.l40 (by have := HS2.out.les; omega))
                    clear hp9 hf9 HB8 HDO HLO hS9 c0 c1 c2 c3 c4 c5
                    go_wp2_with fail
                    refine HSM.out.mono ?_
                    rintro e w10 ⟨rfl, b10⟩
                    have HP10 := Lib.hid (HP9.out.below b10)
                    have HB10 : Hid (Below w.heap.size w w10) := Lib.hid (HB9.out.trans (b10.mono HB9.out.size))
                    clear HSM b10 HP9 HB9
                    go_wp2_with fail
                    go_roundw
                    case rel => exact ⟨j + 1, O9, S9, by omega, by go_num, HP10, HS2, HB10⟩
                    case measure => simp [intOf]; omega
                  · have hlt2 : decide ((j : Int) < (zs.length : Int)) = false := by simp; omega
                    go_wp2_with fail
                    go_ret
                    exact ⟨rfl, HB.out⟩
end Go.Proofs.YtbbdokfankgllaaGreatDoor
