/- MsgTurned: with a byte turned the bytes are another message, or none; no condition on the input. -/
import Derived.Test.YtddkbninkncbeaaMHead
import Derived.Test.YtddkbninkncbeaaMArgs
import Derived.Test.YtddkbninkncbeaaRows
import Derived.ProofKit
import Derived.OpenShut
import Derived.ShutString
import Derived.ChangeOld
import Derived.Deep.DeepHandedRow
import Derived.Lib.LaidTab
import Derived.Stop.LaidErr
import Derived.Lay
import Derived.Laws.BitsAllLaws
namespace Go.Proofs.Ytddkbninkncbeaa.msgTurned
open Go.ChangeShapes Go.WideShapes Go.ChangeAt Go.RowKit
open Go.ChangeMaps (open_string shut_string)
set_option linter.unusedVariables false
set_option maxRecDepth 100000
theorem xor_lt8 (a b : Nat) (ha : a < 256) (hb : b < 256) : a ^^^ b < 256 := Nat.xor_lt_two_pow (n := 8) ha hb
def RowIs (w : World) (g M : Nat) (L : List UInt8) (Z : List Value) : Prop := w.heap[g]? = some (.cells (cellsOf L ++ Z).toArray 5 (M, M + 1))
theorem RowIs.cell {w : World} {g M : Nat} {L : List UInt8} {Z : List Value} (h : RowIs w g M L Z) (i : Nat) (hi : i < L.length) : w.cell? ⟨g, i, none⟩ = some (.int .u8 ((L.getD i 0).toNat : Int)) := by
  unfold RowIs at h
  simp [World.cell?, h, cellsOf, List.getElem?_append, hi]
theorem RowIs.free {w : World} {g M : Nat} {L : List UInt8} {Z : List Value} (h : RowIs w g M L Z) (i : Nat) (hi : i < M) : w.frozen? ⟨g, i, none⟩ = false := by
  unfold RowIs at h
  simp [World.frozen?, h]
  omega
theorem RowIs.set {w : World} {g M : Nat} {L : List UInt8} {Z : List Value} (h : RowIs w g M L Z) (i : Nat) (hi : i < L.length) (c : UInt8) : RowIs (w.setCell ⟨g, i, none⟩ (.int .u8 (c.toNat : Int))) g M (L.set i c) Z := by
  have hlt := lt_of_block h
  have h2 : w.heap[g]? = some (.cells (cellsOf L ++ Z).toArray 5 (M, M + 1)) := h
  have h' : w.heap[g] = .cells (cellsOf L ++ Z).toArray 5 (M, M + 1) := by simpa [Array.getElem?_eq_getElem hlt] using h2
  show (w.heap.modify g _)[g]? = _
  rw [Array.getElem?_eq_getElem (by simpa using hlt), Array.getElem_modify_self, h']
  have e : (cellsOf L ++ Z).toArray.setIfInBounds i (.int .u8 (c.toNat : Int)) = (cellsOf (L.set i c) ++ Z).toArray := by
    rw [List.setIfInBounds_toArray, List.set_append_left _ _ (by rw [cellsOf_length]; exact hi)]
    unfold cellsOf
    rw [List.map_set]
  simp [e]
theorem RowIs.src {w : World} {g M : Nat} {L : List UInt8} {Z : List Value} (h : RowIs w g M L Z) (c : Nat) : Src w (.slice (some ⟨g, 0, none⟩) L.length c) L := by
  refine ⟨_, c, rfl, .inr ⟨_, rfl, fun j x hx => ?_⟩⟩
  have hj : j < L.length := by
    have := (List.getElem?_eq_some_iff.1 hx).1
    rwa [cellsOf_length] at this
  rw [show (Addr.add ⟨g, 0, none⟩ j : Addr) = ⟨g, j, none⟩ by simp [Addr.add]; omega]
  unfold RowIs at h
  simp only [World.cell?, h]
  rw [← hx]
  simp [List.getElem?_append, cellsOf_length, hj]
theorem RowIs.below {w w' : World} {g M : Nat} {L : List UInt8} {Z : List Value} (h : RowIs w g M L Z) (k : Below w.heap.size w w') : RowIs w' g M L Z := (k.block g (lt_of_block h)).trans h
def flip8 (c : UInt8) (d : Nat) : UInt8 := UInt8.ofNat (c.toNat ^^^ d)
theorem flip8_nat (c : UInt8) (d : Nat) (hd : d < 256) : (flip8 c d).toNat = c.toNat ^^^ d := by
  unfold flip8
  rw [UInt8.toNat_ofNat']
  exact Nat.mod_eq_of_lt (xor_lt8 _ _ c.toNat_lt hd)
theorem i64_and16 (n : Int) : bits .and .i64 n 65535 = n % 65536 := by
  have h127 : (BitVec.ofInt 64 65535).toNat = 2 ^ 16 - 1 := by decide
  have key : (BitVec.ofInt 64 n &&& BitVec.ofInt 64 65535).toNat = (n % ((2 ^ 64 : Nat) : Int)).toNat % 2 ^ 16 := by
    rw [BitVec.toNat_and, BitVec.toNat_ofInt, h127, Nat.and_two_pow_sub_one_eq_mod]
  show IntKind.i64.wrap ((BitVec.ofInt 64 n &&& BitVec.ofInt 64 65535).toNat : Nat) = n % 65536
  rw [key, IntKind.wrap_i64]
  omega
theorem RowIs.sets {w : World} {g M b i : Nat} {L : List UInt8} {Z : List Value} {u : Value} (h : RowIs w g M L Z) (hne : g ≠ b) : RowIs (w.setCell ⟨b, i, none⟩ u) g M L Z := kept_set h hne
theorem set_ne {L : List UInt8} {p : Nat} (hp : p < L.length) {d : Nat} (hd : d < 256) (h0 : ¬ d = 0) : ¬ L.set p (flip8 (L.getD p 0) d) = L := by
  intro e
  have h1 : (L.set p (flip8 (L.getD p 0) d))[p]? = L[p]? := by rw [e]
  rw [List.getElem?_set_self hp] at h1
  have h2 : L[p]? = some (L.getD p 0) := by rw [List.getD_eq_getElem?_getD, List.getElem?_eq_getElem hp]; rfl
  rw [h2] at h1
  have h3 := congrArg UInt8.toNat (Option.some.inj h1)
  rw [flip8_nat _ _ hd] at h3
  have h4 : (L.getD p 0).toNat ^^^ ((L.getD p 0).toNat ^^^ d) = (L.getD p 0).toNat ^^^ (L.getD p 0).toNat := by rw [h3]
  rw [← Nat.xor_assoc, Nat.xor_self, Nat.zero_xor] at h4
  exact h0 h4
set_option maxHeartbeats 16000000 in
theorem walk (v0 z0 : Value) (a1 a2 : Int) (w : World) (w0 : ∃ s m, v0 = mgV z0 s m ∧ m.Ok ∧ EnsR w z0 m.es ∧ SmsR w s m.ss) (w1 : (Lit.int .i64 a1).wf = true) (wq : (Lit.int .u8 a2).wf = true) :
    Calls Try.prog 7 #[v0, .int .i64 a1, .int .u8 a2] w fun e w' => e = .returned (.bool true) ∧ Below w.heap.size w w' := by
  obtain ⟨s, m, rfl, hm, hE, hS⟩ := w0
  obtain ⟨a, cap, rfl, _⟩ := hE.form
  obtain ⟨sa, scap, rfl, _⟩ := hS.form
  have bA := (Below.refl w.heap.size w).alloc (Nat.le_refl _) (.cells (mgA (.slice a m.es.length cap) (.slice sa m.ss.length scap) m) 29)
  have N1 := MgB.new w (.slice a m.es.length cap) (.slice sa m.ss.length scap) m
  have HE := Lib.hid hE
  have HS := Lib.hid hS
  have HM := Lib.hid hm
  obtain ⟨w1', hw1⟩ : ∃ w1, w1 = w.alloc (.cells (mgA (.slice a m.es.length cap) (.slice sa m.ss.length scap) m) 29) := ⟨_, rfl⟩
  have hw1' := hw1
  rw [← hw1] at bA N1
  unfold mgA at hw1'
  have HH := Lib.hid (head_any w1')
  obtain ⟨b, hb⟩ : ∃ b, b = w.heap.size := ⟨_, rfl⟩
  have hbw : w.heap.size ≤ b := by omega
  rw [← hb] at N1
  have HN1 := Lib.hid N1
  unfold mgV
  clear hE hS hm N1 hw1
  go_enter Try.func7, Try.ntmps7
  go_upto_region 1 with fail
  rw [← hw1', ← hb]
  clear hw1' hb
  go_wp2_with fail
  refine HH.out.mono ?_
  rintro e w2 ⟨rfl, b2⟩
  have N2 := HN1.out.below b2
  have bB := bA.trans (b2.mono bA.size)
  have hld := run_loadM N2
  have HF := Lib.hid (few_any _ _ m w2 HM.out (HE.out.below bB) (HS.out.below bB))
  unfold mgV at hld HF
  have HLD := Lib.hid hld
  have HN2 := Lib.hid N2
  clear hld N2 HN1 HH bA b2
  go_wp2_with (refine wpList_load_run HLD.out rfl rfl rfl ?_)
  refine HF.out.mono ?_
  rintro e w3 ⟨rfl, b3⟩
  have N3 := HN2.out.below b3
  have bC := bB.trans (b3.mono bB.size)
  have hld := run_loadM N3
  have HR := Lib.hid (lright_any _ _ m w3 HM.out (HE.out.below bC) (HS.out.below bC))
  unfold mgV at hld HR
  have HLD3 := Lib.hid hld
  have HN3 := Lib.hid N3
  clear hld N3 HN2 HLD HF bB b3
  cases fewM m with
  | false =>
    go_wp2_with fail
    go_ret
    exact ⟨rfl, bC⟩
  | true =>
  go_wp2_with (refine wpList_load_g HLD3.out rfl rfl (by rfl) ?_)
  refine HR.out.mono ?_
  rintro e w4 ⟨rfl, b4⟩
  have N4 := HN3.out.below b4
  have bD := bC.trans (b4.mono bC.size)
  have HP := Lib.hid (rightM_parts (m := m))
  clear HN3 HR HLD3 bC b4
  cases hr : rightM m with
  | false =>
    clear hr
    go_wp2_with fail
    go_ret
    exact ⟨rfl, bD⟩
  | true =>
  have HPR := Lib.hid (HP.out hr)
  clear hr HP
  obtain ⟨n2, hn2⟩ : ∃ n : Nat, a2 = (n : Int) := Int.eq_ofNat_of_zero_le (by
    have := (Lit.wf_int_iff .u8 a2).1 wq
    rw [show IntKind.u8.min = 0 by decide] at this
    exact this.1)
  have hn256 : n2 < 256 := by
    have := (Lit.wf_int_iff .u8 a2).1 wq
    rw [show IntKind.u8.max = 255 by decide] at this
    omega
  subst hn2
  by_cases hz : n2 = 0
  · subst hz
    go_wp2_with fail
    go_ret
    exact ⟨rfl, bD⟩
  have hnz : ((n2 : Int) == 0) = false := by simp; omega
  have HNZ := Lib.hid hz
  have hld := run_loadM N4
  have HBY := Lib.hid (mbytes_any _ _ m w4 HM.out (HE.out.below bD) (HS.out.below bD))
  have hbm : bytesM m = (⟨(encM m).toArray⟩, 0) := by unfold bytesM; rw [if_pos (rightM_make HPR.out)]
  rw [hbm] at HBY
  obtain ⟨T, hT⟩ : ∃ T : ByteArray, T = ⟨(encM m).toArray⟩ := ⟨_, rfl⟩
  obtain ⟨L, hL⟩ : ∃ L, L = encM m := ⟨_, rfl⟩
  have hTL : T.data.toList = L := by rw [hT, hL]
  have hTs : T.size = L.length := by rw [← hTL, ← Lib.size_eq]
  have hl0 : 0 < L.length ∧ L.length ≤ 1000000 := by
    have h1 := encM_length m
    have h2 := encEs_len m.es
    have h3 := textE_length m.da.data.toList
    have h4 := HPR.out.es
    have h5 := HPR.out.ss
    rw [hL]; omega
  rw [← hT] at HBY
  have HLM := Lib.hid hL
  unfold mgV at hld HBY
  have HLD4 := Lib.hid hld
  have HN4 := Lib.hid N4
  clear hld N4 hbm hT hL hz
  go_wp2_with (refine wpList_load_run HLD4.out rfl rfl rfl ?_)
  refine HBY.out.mono ?_
  rintro e w5 ⟨rfl, b5⟩
  have N5 := HN4.out.below b5
  have bE := bD.trans (b5.mono bD.size)
  have hbs : b < w5.heap.size := N5.lt
  obtain ⟨cap', hcap⟩ : ∃ cap, cap = grownCap w5 T.size 0 5 := ⟨_, rfl⟩
  have hcap2 : T.size ≤ cap' := by rw [hcap]; exact grownCap_ge w5 T.size 0 5
  have hcb := run_bytes_of_string (P := Try.prog) w5 9 35 5 T und_string und_bytes und_u8
  rw [← hcap] at hcb
  obtain ⟨Z, hZ⟩ : ∃ Z : List Value, Z = List.replicate (cap' - T.size) (.int .u8 0) := ⟨_, rfl⟩
  have hrow : bytesRow T cap' = (cellsOf T.data.toList ++ Z).toArray := by
    unfold bytesRow cellsOf
    rw [hZ]
    apply Array.toList_inj.1
    simp
  have hsize : (bytesRow T cap').size = cap' := by unfold bytesRow; simp; omega
  rw [hsize, hrow, hTL] at hcb
  have R6 : RowIs (w5.drew.alloc (.cells (cellsOf L ++ Z).toArray 5 (cap', cap' + 1))) w5.heap.size cap' L Z := heap_alloc_new w5.drew _
  have b6 := ((Below.refl _ w5).drew).alloc (Nat.le_refl _) (.cells (cellsOf L ++ Z).toArray 5 (cap', cap' + 1))
  have N6 := N5.below b6
  have bF := bE.trans (b6.mono bE.size)
  obtain ⟨g, hg⟩ : ∃ g, g = w5.heap.size := ⟨_, rfl⟩
  have hgw : w.heap.size ≤ g := by have := bE.size; omega
  have hgb : g ≠ b := by omega
  obtain ⟨w6, hw6⟩ : ∃ w6, w6 = w5.drew.alloc (.cells (cellsOf L ++ Z).toArray 5 (cap', cap' + 1)) := ⟨_, rfl⟩
  rw [← hw6] at R6 N6 bF hcb
  rw [← hg] at R6 hcb
  have HR6 := Lib.hid R6
  have HN6 := Lib.hid N6
  clear hrow hsize hZ hcap hw6 hg b6 N5 bE R6 N6 HN4 HLD4 HBY b5
  rw [hTs] at hcb hcap2
  -- the place
  obtain ⟨u, hu, hu16⟩ : ∃ u : Nat, bits .and .i64 a1 65535 = (u : Int) ∧ u < 65536 := ⟨(a1 % 65536).toNat, by rw [i64_and16]; omega, by omega⟩
  have hp : u % L.length < L.length := Nat.mod_lt _ hl0.1
  obtain ⟨p, hpe⟩ : ∃ p, p = u % L.length := ⟨_, rfl⟩
  have hpn : u % L.length = p := hpe.symm
  rw [← hpe] at hp
  have hp0 : (0 : Int) ≤ (p : Int) := by omega
  have hp1 : (p : Int) < (L.length : Int) := by omega
  have hpi : (u : Int) % (L.length : Int) = (p : Int) := by rw [hpe]; exact (Int.natCast_emod u L.length).symm
  have hpt : (u : Int).tmod (L.length : Int) = (p : Int) := by rw [Int.tmod_eq_emod_of_nonneg (by omega)]; exact hpi
  have hl64 : IntKind.i64.wrap (p : Int) = (p : Int) := IntWalk.i64_in _ (by omega)
  have hcell := HR6.out.cell p hp
  have hfree := HR6.out.free p (by omega)
  have hset := HR6.out.set p hp (flip8 (L.getD p 0) n2)
  have hN7 := HN6.out.set (b := g) (i := p) (x := .int .u8 ((flip8 (L.getD p 0) n2).toNat : Int)) hgb.symm
  have bG := bF.setCell (p := ⟨g, p, none⟩) hgw (.int .u8 ((flip8 (L.getD p 0) n2).toNat : Int))
  rw [flip8_nat _ _ hn256] at hset hN7 bG
  have hx8 := u8_xor_nat (L.getD p 0).toNat n2 (UInt8.toNat_lt _) hn256
  have HNE := Lib.hid (set_ne hp hn256 HNZ.out)
  obtain ⟨L2, hL2⟩ : ∃ L2, L2 = L.set p (flip8 (L.getD p 0) n2) := ⟨_, rfl⟩
  have hL2l : L2.length = L.length := by rw [hL2, List.length_set]
  rw [← hL2] at hset HNE
  obtain ⟨Q, hQ⟩ : ∃ Q : ByteArray, Q = ⟨L2.toArray⟩ := ⟨_, rfl⟩
  have hQL : Q.data.toList = L2 := by rw [hQ]
  have hQs : Q.size = L.length := by rw [hQ, size_arr, hL2l]
  have HSE := Lib.hid hset
  have HN7 := Lib.hid hN7
  have HX8 := Lib.hid hx8
  clear hset hN7 hx8 hL2 bF HN6 HR6 hpe
  generalize L.getD p 0 = c at *
  obtain ⟨w7, hw7⟩ : ∃ w7, w7 = w6.setCell ⟨g, p, none⟩ (.int .u8 ((c.toNat ^^^ n2 : Nat) : Int)) := ⟨_, rfl⟩
  have HW7 := Lib.hid hw7
  rw [← hw7] at HSE HN7 bG
  have hstr := run_str (HSE.out.src cap')
  rw [hL2l, ← hQ] at hstr
  have HRD := Lib.hid (fun W : World => mread_any Q W (by omega))
  rw [hQL] at HRD
  have HG := Lib.hid (fun h : (readM L2).2 = 0 => readM_some h)
  have HT := Lib.hid (fun h : ¬ (readM L2).2 = 0 => readM_two h)
  have HO := Lib.hid (readM_oks L2)
  generalize hY : readM L2 = Y at HRD HG HT HO
  clear hY hw7
  obtain ⟨c2, ec⟩ := Y
  simp only at HRD HG HT HO
  have hx8 := HX8.out
  have HQQ := Lib.hid hQ
  have HHS := Lib.hid hstr
  have HPG := Lib.hid bG
  clear hQ hstr bG
  go_upto_region 10 with fail
  try rw [hx8]
  rw [← HW7.out]
  clear hcell hfree hx8 HX8 hcb HW7
  have hstr := HHS.out
  go_wp2_with fail
  refine (HRD.out _).mono ?_
  rintro e w8 ⟨u8, v8, rfl, O8, S8, b8⟩
  obtain ⟨a8, c8, rfl, _⟩ := RowG.form O8
  obtain ⟨sa8, sc8, rfl, _⟩ := RowG.form S8
  have R8 := ERow.ensR O8 (Nat.le_trans HO.out.2.1 (show 4 ≤ maxLen by decide)) HO.out.2.2.1
  have T8 := SRow.smsR S8 (Nat.le_trans HO.out.2.2.2.1 (show 64 ≤ maxLen by decide)) HO.out.2.2.2.2
  have bH := HPG.out.trans (b8.mono HPG.out.size)
  have N8 := HN7.out.below b8
  have SE8 := HSE.out.below b8
  clear hstr HN7 HPG b8 O8 S8 HRD hu hpi hpt hpn hl64
  by_cases he : ec = 0
  · subst he
    obtain ⟨g1, g2⟩ := HG.out rfl
    have hbq : bytesM c2 = (Q, 0) := by unfold bytesM; rw [if_pos g2, g1, HQQ.out]
    have hnm : ¬ c2 = m := fun e => HNE.out (by rw [← g1, e]; exact HLM.out.symm)
    obtain ⟨W9, hst, X9, b9⟩ := newM w8 c2.es.length c8 c2.ss.length sc8 a8 sa8 c2
    have hld := run_loadM X9
    have HBY := Lib.hid (mbytes_any _ _ c2 W9 HO.out.1 (R8.below b9) (T8.below b9))
    rw [hbq] at HBY
    unfold mgV at hst hld HBY ⊢
    have HST := Lib.hid hst
    have HLD := Lib.hid hld
    have N9 := N8.below b9
    have SE9 := SE8.below b9
    have bJ := bH.trans (b9.mono bH.size)
    have HR9 := Lib.hid (R8.below b9)
    have HT9 := Lib.hid (T8.below b9)
    have HX9 := Lib.hid X9
    have HN9 := Lib.hid N9
    have HSE9 := Lib.hid SE9
    have HNM := Lib.hid hnm
    clear hst hld X9 N9 SE9 hnm hbq g1 g2 HG HT N8 SE8 R8 T8 b9 bH
    go_wp2_with (first | (refine wpList_store_run HST.out rfl rfl rfl rfl ?_) | (refine wpList_load_run HLD.out rfl rfl rfl ?_))
    refine HBY.out.mono ?_
    rintro e w10 ⟨rfl, b10⟩
    have X10 := HX9.out.below b10
    have N10 := HN9.out.below b10
    have SE10 := HSE9.out.below b10
    have bK := bJ.trans (b10.mono bJ.size)
    have hl1 := run_loadM X10
    have hl2 := run_loadM N10
    have hstr := run_str (SE10.src cap')
    rw [hL2l, ← HQQ.out] at hstr
    have HSM := Lib.hid (msame_any _ _ _ _ c2 m w10 (HR9.out.below b10) (HT9.out.below b10) (HE.out.below bK) (HS.out.below bK))
    rw [eqB_ne HNM.out] at HSM
    unfold mgV at hl1 hl2 HSM
    have HL1 := Lib.hid hl1
    have HL2 := Lib.hid hl2
    have ee : (Q.toList == Q.toList) = true := by simp
    clear hl1 hl2 X10 N10 SE10 HX9 HN9 HSE9 HST HLD HBY bJ b10 HR9 HT9
    go_wp2_with (first | (refine wpList_load_g HL1.out rfl rfl (by rfl) ?_) | (refine wpList_load_g HL2.out rfl rfl (by rfl) ?_))
    refine HSM.out.mono ?_
    rintro e w11 ⟨rfl, b11⟩
    go_wp2_with fail
    go_ret
    exact ⟨by simp, bK.trans (b11.mono bK.size)⟩
  · have ht := HT.out he
    injection ht with h1 h2
    subst h1 h2
    obtain ⟨W9, hst, X9, b9⟩ := newM w8 0 c8 0 sc8 a8 sa8 Mg.zero
    have bJ := bH.trans (b9.mono bH.size)
    obtain ⟨⟨c0, _⟩, _⟩ := MgB.cells X9
    simp only [Mg.zero] at c0
    rw [show Mg.zero.es.length = 0 from rfl, show Mg.zero.ss.length = 0 from rfl]
    simp only [mgV, Mg.zero] at hst ⊢
    have HST := Lib.hid hst
    clear hst X9 N8 SE8 R8 T8 b9 bH HG HT he
    go_wp2_with (refine wpList_store_run HST.out rfl rfl rfl rfl ?_)
    go_ret
    exact ⟨by simp, bJ⟩

theorem own : ownKnob Try.prog.godebug = none := by kernel_rfl
theorem laidOut : laidOutB Try.prog = true := by kernel_rfl

set_option maxRecDepth 100000 in
theorem lifted (os : Os) (started : os.Started) (H : Type) (enc : TypeId × Value → H) :
    ReturnsInHanded {} Try.checked os 7 .any (Rows.msgTurnedSpec.pre6 enc Try.prog Try.f7 Rows.msgTurnedRow.domain false) (Rows.msgTurnedSpec.post enc Try.prog Try.f7 false true false false) := by
  refine returnsInHanded_of_change (C := Try.checked) own started (by kernel_rfl) Try.func7
    (ChangeSpec.witness6 (enc := enc) (C := Try.checked) false ⟨#[], #[.agg #[.int .i64 0, .int .i64 0, .int .i64 0, .int .i64 0, .int .i64 0, .int .i64 0, .int .i64 0, .int .i64 0, .slice none 0 0, .bool false, .int .i64 0, .int .i64 0, .int .i64 0, .int .i64 0, .slice none 0 0, .int .i64 0, .string ByteArray.empty], .int .i64 0, .int .u8 0], []⟩ 8 (by kernel_rfl) (by kernel_rfl) (by kernel_rfl) (by kernel_rfl)) ?_
  intro W base args ds gs before hval0 hW hcnd _
  have hval : ∀ (j : Nat) t v, Try.f7.params[j]? = some t → args[j]? = some v → Value.okWide Try.prog W .any base t v := hval0
  have hW' := hW
  obtain ⟨p, q, hA0, hV, rfl, hfz, hnd⟩ := hW
  have hA : DataW.TrodAll enc Try.prog W 0 (fun _ => true) true Try.f7.params.toList args.toList ds p := hA0
  rw [Try.params7] at hA hval
  obtain ⟨v0, vs0, d0, ds0, p0, q0, hargs, rfl, rfl, h0, r0⟩ := trodAll_cons hA
  obtain ⟨v1, vs1, d1, ds1, p1, q1, rfl, rfl, rfl, h1, r1⟩ := trodAll_cons r0
  obtain ⟨v2, vs2, d2, ds2, p2, q2, rfl, rfl, rfl, h2, r2⟩ := trodAll_cons r1
  obtain ⟨rfl, rfl, rfl⟩ := trodAll_nil r2
  obtain rfl : args = #[v0, v1, v2] := by cases args; simp_all
  obtain ⟨rfl, rfl⟩ := trodVars_none hV
  have k0 := h0
  have lt0 : ∀ x ∈ p0, x.block < W.heap.size := by obtain ⟨m, hm⟩ := k0; exact DataW.trod_lt m _ _ _ hm
  obtain ⟨z0, w0⟩ := msg_of (hval 0 29 v0 rfl rfl) h0
  obtain ⟨a1, rfl, rfl, rfl, w1⟩ := open_int Try.underlying3 (hval 1 3 v1 rfl rfl) h1
  obtain ⟨a2, rfl, rfl, rfl, w2⟩ := open_int Try.underlying5 (hval 2 5 v2 rfl rfl) h2
  clear hA0 hval0
  refine (walk v0 z0 a1 a2 W w0 w1 w2).mono fun e W' ⟨he, bel⟩ => ?_
  subst he
  exact ⟨_, rfl, _, _, _, [], _, [], hW', trodAll_mk1 (shut_bool Try.underlying4 _), (trodAll_cons_mk (Below.trod laidOut (by kernel_rfl) (of_decide_eq_true (by kernel_rfl)) k0 bel lt0) (trodAll_cons_mk (shut_int Try.underlying3 w1) (trodAll_cons_mk (shut_int Try.underlying5 w2) trodAll_mk0))), rfl, bel.frame _, fun h => by cases h⟩

theorem over : Rows.msgTurnedRow.holds Try.pinned (OpenSpec.ofChange Rows.msgTurnedSpec) :=
  OpenClaim.holds_of_wide 7 Try.f7 rfl rfl rfl rfl rfl rfl rfl ⟨rfl, rfl, rfl, rfl, rfl⟩ rfl rfl rfl rfl rfl (by kernel_rfl) Try.func7 (by kernel_rfl)
    (of_decide_eq_true (by kernel_rfl)) (by unfold Func.isWrapper; first | (rw [if_pos (by decide +kernel)]; kernel_rfl) | (rw [if_neg (by decide +kernel)]; exact ⟨rfl, rfl⟩))
    (fun os started H enc _ => lifted os started H enc)

theorem proved : Rows.MsgTurnedSaid := over
end Go.Proofs.Ytddkbninkncbeaa.msgTurned
