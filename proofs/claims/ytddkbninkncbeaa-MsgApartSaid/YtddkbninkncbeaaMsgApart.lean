/- MsgApart: messages that differ in one part are told apart; no condition on the input. -/
import Derived.Test.YtddkbninkncbeaaMHead
import Derived.Test.YtddkbninkncbeaaMArgs
import Derived.Test.YtddkbninkncbeaaRows
import Derived.ProofKit
import Derived.OpenShut
import Derived.ShutString
import Derived.ChangeOld
import Derived.Deep.DeepHandedRow
import Derived.Lib.LaidTab
import Derived.Stop.LaidErr
import Derived.Lay
namespace Go.Proofs.Ytddkbninkncbeaa.msgApart
open Go.ChangeShapes Go.WideShapes Go.ChangeAt Go.RowKit
open Go.ChangeMaps (open_string shut_string)
set_option linter.unusedVariables false
set_option maxRecDepth 100000
theorem wrapu (z : Int) : IntKind.u64.wrap z = z % 18446744073709551616 := by
  simp [IntKind.wrap, IntKind.bits, IntKind.signed]
theorem pick8 (z : Int) (P : Prop) (h : ∀ q : Nat, q < 8 → wrap64 ((IntKind.u64.wrap z).tmod 8) = (q : Int) → P) : P := by
  have hw := wrapu z
  have h0 : 0 ≤ IntKind.u64.wrap z := by omega
  have ht : (IntKind.u64.wrap z).tmod 8 = IntKind.u64.wrap z % 8 := Int.tmod_eq_emod_of_nonneg h0
  refine h ((IntKind.u64.wrap z) % 8).toNat (by omega) ?_
  have e : (((IntKind.u64.wrap z % 8).toNat : Nat) : Int) = IntKind.u64.wrap z % 8 := by omega
  rw [ht, e]
  unfold wrap64
  omega
theorem xor1 (z : Int) (h : 0 ≤ z) (h2 : z ≤ 281474976710655) : ¬ bits .xor .i64 z 1 = z := by
  obtain ⟨n, rfl⟩ := Int.eq_ofNat_of_zero_le h
  have hn : n < 2 ^ 64 := by omega
  have h63 : n ^^^ 1 < 2 ^ 63 := Nat.xor_lt_two_pow (by omega) (by decide)
  have key : (BitVec.ofInt 64 (n : Int) ^^^ BitVec.ofInt 64 1).toNat = n ^^^ 1 := by
    rw [BitVec.toNat_xor]
    have e1 : (BitVec.ofInt 64 (n : Int)).toNat = n := by simp; omega
    rw [e1]; rfl
  show ¬ IntKind.i64.wrap ((BitVec.ofInt 64 (n : Int) ^^^ BitVec.ofInt 64 1).toNat : Nat) = (n : Int)
  rw [key, IntWalk.i64_in _ (by omega)]
  intro e
  have e' : n ^^^ 1 = n := by omega
  have h1 : n ^^^ (n ^^^ 1) = n ^^^ n := by rw [e']
  rw [← Nat.xor_assoc, Nat.xor_self, Nat.zero_xor] at h1
  cases h1
theorem MgB.putx {x : World} {b k : Nat} {u v t : Value} {m m' : Mg} (h : MgB x b u v m) (hk : (mgA u v m).setIfInBounds k t = mgA u v m') : MgB (x.setCell ⟨b, k, none⟩ t) b u v m' := by
  unfold MgB at h ⊢
  have h0 := block_setCell (i := k) (u := t) h
  rw [hk] at h0
  exact h0
set_option maxHeartbeats 16000000 in
theorem walk (v0 z0 : Value) (a1 : Int) (w : World) (w0 : ∃ s m, v0 = mgV z0 s m ∧ m.Ok ∧ EnsR w z0 m.es ∧ SmsR w s m.ss) (w1 : (Lit.int .i64 a1).wf = true) :
    Calls Try.prog 5 #[v0, .int .i64 a1] w fun e w' => e = .returned (.bool true) ∧ Below w.heap.size w w' := by
  obtain ⟨s, m, rfl, hm, hE, hS⟩ := w0
  obtain ⟨a, cap, rfl, _⟩ := hE.form
  obtain ⟨sa, scap, rfl, _⟩ := hS.form
  have bA := (Below.refl w.heap.size w).alloc (Nat.le_refl _) (.cells (mgA (.slice a m.es.length cap) (.slice sa m.ss.length scap) m) 29)
  have N1 := MgB.new w (.slice a m.es.length cap) (.slice sa m.ss.length scap) m
  have HE := Lib.hid hE
  have HS := Lib.hid hS
  have HM := Lib.hid hm
  obtain ⟨w1', hw1⟩ : ∃ w1, w1 = w.alloc (.cells (mgA (.slice a m.es.length cap) (.slice sa m.ss.length scap) m) 29) := ⟨_, rfl⟩
  have hw1' := hw1
  rw [← hw1] at bA N1
  unfold mgA at hw1'
  have HH := Lib.hid (head_any w1')
  obtain ⟨b, hb⟩ : ∃ b, b = w.heap.size := ⟨_, rfl⟩
  have hbw : w.heap.size ≤ b := by omega
  rw [← hb] at N1
  have HN1 := Lib.hid N1
  unfold mgV
  clear hE hS hm N1 hw1
  go_enter Try.func5, Try.ntmps5
  go_upto_region 1 with fail
  rw [← hw1', ← hb]
  clear hw1' hb
  go_wp2_with fail
  refine HH.out.mono ?_
  rintro e w2 ⟨rfl, b2⟩
  have N2 := HN1.out.below b2
  have bB := bA.trans (b2.mono bA.size)
  have hld := run_loadM N2
  have HF := Lib.hid (few_any _ _ m w2 HM.out (HE.out.below bB) (HS.out.below bB))
  unfold mgV at hld HF
  have HLD := Lib.hid hld
  have HN2 := Lib.hid N2
  clear hld N2 HN1 HH bA b2
  go_wp2_with (refine wpList_load_run HLD.out rfl rfl rfl ?_)
  refine HF.out.mono ?_
  rintro e w3 ⟨rfl, b3⟩
  have N3 := HN2.out.below b3
  have bC := bB.trans (b3.mono bB.size)
  have hld := run_loadM N3
  have HR := Lib.hid (lright_any _ _ m w3 HM.out (HE.out.below bC) (HS.out.below bC))
  unfold mgV at hld HR
  have HLD3 := Lib.hid hld
  have HN3 := Lib.hid N3
  clear hld N3 HN2 HLD HF bB b3
  cases fewM m with
  | false =>
    go_wp2_with fail
    go_ret
    exact ⟨rfl, bC⟩
  | true =>
  go_wp2_with (refine wpList_load_g HLD3.out rfl rfl (by rfl) ?_)
  refine HR.out.mono ?_
  rintro e w4 ⟨rfl, b4⟩
  have N4 := HN3.out.below b4
  have bD := bC.trans (b4.mono bC.size)
  have HP := Lib.hid (rightM_parts (m := m))
  clear HN3 HR HLD3 bC b4
  cases hr : rightM m with
  | false =>
    clear hr
    go_wp2_with fail
    go_ret
    exact ⟨rfl, bD⟩
  | true =>
  have HPR := Lib.hid (HP.out hr)
  clear hr HP
  have hld := run_loadM N4
  obtain ⟨W5, hst, D5, b5⟩ := newM w4 m.es.length cap m.ss.length scap a sa m
  unfold mgV at hld hst
  have HLD4 := Lib.hid hld
  have HST := Lib.hid hst
  have N5 := N4.below b5
  have bE := bD.trans (b5.mono bD.size)
  have hbn : b < w4.heap.size := N4.lt
  have hnw : w.heap.size ≤ w4.heap.size := bD.size
  obtain ⟨⟨d0, d1, d2, d3, d4, d5, d6, d7, d8, d9, d10, d11, d12, d13, d14, d15, d16⟩, f0, f1, f2, f3, f4, f5, f6, f7, f8, f9, f10, f11, f12, f13, f14, f15, f16⟩ := MgB.cells D5
  obtain ⟨⟨c0, c1, c2, c3, c4, c5, c6, c7, c8, c9, c10, c11, c12, c13, c14, c15, c16⟩, _⟩ := MgB.cells N5
  have HN5 := Lib.hid N5
  have HD5 := Lib.hid D5
  clear hld hst N4 b5 N5 D5 bD
  refine pick8 a1 _ (fun q hq hqe => ?_)
  match q, hq with
  | 0, _ =>
    clear c1 d1 f1 c2 d2 f2 c3 d3 f3 c4 d4 f4 c5 d5 f5 c6 d6 f6 c7 d7 f7 c8 d8 f8 c9 d9 f9 c10 d10 f10 c11 d11 f11 c12 d12 f12 c13 d13 f13 c14 d14 f14 c15 d15 f15 c16 d16 f16
    have hX : ∃ z, z = 1 + m.kd % 8 ∧ ¬ z = m.kd := ⟨_, rfl, by have := HPR.out.kd; omega⟩
    obtain ⟨z, hz, hzn⟩ := hX
    have t1 : m.kd.tmod 8 = m.kd % 8 := Int.tmod_eq_emod_of_nonneg (by have := HPR.out.kd; omega)
    have t2 : IntKind.i64.wrap (m.kd % 8) = m.kd % 8 := IntWalk.i64_in _ (by omega)
    have t3 : IntKind.i64.wrap (1 + m.kd % 8) = z := by rw [hz]; exact IntWalk.i64_in _ (by omega)
    have HZ := Lib.hid hzn
    clear hz hzn
    go_upto_region 22 with (first | (refine wpList_store_run HST.out rfl rfl rfl rfl ?_) | (refine wpList_load_run HLD4.out rfl rfl rfl ?_))
    obtain ⟨w6, hw6⟩ : ∃ w6, w6 = W5.setCell ⟨w4.heap.size, 0, none⟩ (.int .i64 z) := ⟨_, rfl⟩
    have D6 : MgB w6 w4.heap.size (.slice a m.es.length cap) (.slice sa m.ss.length scap) { m with kd := z } := by rw [hw6]; exact MgB.putx HD5.out rfl
    have N6 : MgB w6 b (.slice a m.es.length cap) (.slice sa m.ss.length scap) m := by rw [hw6]; exact MgB.set HN5.out (by omega)
    have bF : Below w.heap.size w w6 := by rw [hw6]; exact bE.setCell (p := ⟨w4.heap.size, 0, none⟩) hnw _
    rw [← hw6]
    have hne : ¬ m = { m with kd := z } := fun e => HZ.out (by rw [e])
    have hl1 := run_loadM N6
    have HS0 := Lib.hid (msame_any _ _ _ _ m m w6 (HE.out.below bF) (HS.out.below bF) (HE.out.below bF) (HS.out.below bF))
    rw [eqB_self] at HS0
    unfold mgV at hl1 HS0
    have HL1 := Lib.hid hl1
    have HN6 := Lib.hid N6
    have HD6 := Lib.hid D6
    have HNE := Lib.hid hne
    clear hw6 HD5 HN5 bE hl1 N6 D6 hne HST HLD4 c0 d0 f0 t3 t1 t2
    go_wp2_with (refine wpList_load_run HL1.out rfl rfl rfl ?_)
    refine HS0.out.mono ?_
    rintro e w7 ⟨rfl, b7⟩
    have N7 := HN6.out.below b7
    have D7 := HD6.out.below b7
    have bG := bF.trans (b7.mono bF.size)
    have hl1 := run_loadM N7
    have hl2 := run_loadM D7
    have HS1 := Lib.hid (msame_any _ _ _ _ m { m with kd := z } w7 (HE.out.below bG) (HS.out.below bG) (HE.out.below bG) (HS.out.below bG))
    rw [eqB_ne HNE.out] at HS1
    unfold mgV at hl1 hl2 HS1
    have HL3 := Lib.hid hl1
    have HL4 := Lib.hid hl2
    have HN7 := Lib.hid N7
    have HD7 := Lib.hid D7
    clear HL1 HS0 HN6 HD6 N7 D7 bF hl1 hl2 b7
    go_wp2_with (first | (refine wpList_load_g HL3.out rfl rfl (by rfl) ?_) | (refine wpList_load_g HL4.out rfl rfl (by rfl) ?_))
    refine HS1.out.mono ?_
    rintro e w8 ⟨rfl, b8⟩
    have N8 := HN7.out.below b8
    have D8 := HD7.out.below b8
    have bH := bG.trans (b8.mono bG.size)
    have hl1 := run_loadM N8
    have hl2 := run_loadM D8
    have HS2 := Lib.hid (msame_any _ _ _ _ { m with kd := z } m w8 (HE.out.below bH) (HS.out.below bH) (HE.out.below bH) (HS.out.below bH))
    rw [eqB_ne (fun e => HNE.out e.symm)] at HS2
    unfold mgV at hl1 hl2 HS2
    have HL5 := Lib.hid hl1
    have HL6 := Lib.hid hl2
    clear HL3 HL4 HS1 HN7 HD7 N8 D8 bG hl1 hl2 b8
    go_wp2_with (first | (refine wpList_load_g HL5.out rfl rfl (by rfl) ?_) | (refine wpList_load_g HL6.out rfl rfl (by rfl) ?_))
    refine HS2.out.mono ?_
    rintro e w9 ⟨rfl, b9⟩
    go_wp2_with fail
    go_ret
    exact ⟨rfl, bH.trans (b9.mono bH.size)⟩
  | 1, _ =>
    clear c0 d0 f0 c2 d2 f2 c3 d3 f3 c4 d4 f4 c5 d5 f5 c6 d6 f6 c7 d7 f7 c8 d8 f8 c9 d9 f9 c10 d10 f10 c11 d11 f11 c12 d12 f12 c13 d13 f13 c14 d14 f14 c15 d15 f15 c16 d16 f16
    have hX : ∃ z, z = bits .xor .i64 m.fr 1 ∧ ¬ z = m.fr := ⟨_, rfl, xor1 _ HPR.out.fr.1 HPR.out.fr.2⟩
    obtain ⟨z, hz, hzn⟩ := hX
    have t3 : bits .xor .i64 m.fr 1 = z := hz.symm
    have HZ := Lib.hid hzn
    clear hz hzn
    go_upto_region 22 with (first | (refine wpList_store_run HST.out rfl rfl rfl rfl ?_) | (refine wpList_load_run HLD4.out rfl rfl rfl ?_))
    obtain ⟨w6, hw6⟩ : ∃ w6, w6 = W5.setCell ⟨w4.heap.size, 1, none⟩ (.int .i64 z) := ⟨_, rfl⟩
    have D6 : MgB w6 w4.heap.size (.slice a m.es.length cap) (.slice sa m.ss.length scap) { m with fr := z } := by rw [hw6]; exact MgB.putx HD5.out rfl
    have N6 : MgB w6 b (.slice a m.es.length cap) (.slice sa m.ss.length scap) m := by rw [hw6]; exact MgB.set HN5.out (by omega)
    have bF : Below w.heap.size w w6 := by rw [hw6]; exact bE.setCell (p := ⟨w4.heap.size, 1, none⟩) hnw _
    rw [← hw6]
    have hne : ¬ m = { m with fr := z } := fun e => HZ.out (by rw [e])
    have hl1 := run_loadM N6
    have HS0 := Lib.hid (msame_any _ _ _ _ m m w6 (HE.out.below bF) (HS.out.below bF) (HE.out.below bF) (HS.out.below bF))
    rw [eqB_self] at HS0
    unfold mgV at hl1 HS0
    have HL1 := Lib.hid hl1
    have HN6 := Lib.hid N6
    have HD6 := Lib.hid D6
    have HNE := Lib.hid hne
    clear hw6 HD5 HN5 bE hl1 N6 D6 hne HST HLD4 c1 d1 f1 t3
    go_wp2_with (refine wpList_load_run HL1.out rfl rfl rfl ?_)
    refine HS0.out.mono ?_
    rintro e w7 ⟨rfl, b7⟩
    have N7 := HN6.out.below b7
    have D7 := HD6.out.below b7
    have bG := bF.trans (b7.mono bF.size)
    have hl1 := run_loadM N7
    have hl2 := run_loadM D7
    have HS1 := Lib.hid (msame_any _ _ _ _ m { m with fr := z } w7 (HE.out.below bG) (HS.out.below bG) (HE.out.below bG) (HS.out.below bG))
    rw [eqB_ne HNE.out] at HS1
    unfold mgV at hl1 hl2 HS1
    have HL3 := Lib.hid hl1
    have HL4 := Lib.hid hl2
    have HN7 := Lib.hid N7
    have HD7 := Lib.hid D7
    clear HL1 HS0 HN6 HD6 N7 D7 bF hl1 hl2 b7
    go_wp2_with (first | (refine wpList_load_g HL3.out rfl rfl (by rfl) ?_) | (refine wpList_load_g HL4.out rfl rfl (by rfl) ?_))
    refine HS1.out.mono ?_
    rintro e w8 ⟨rfl, b8⟩
    have N8 := HN7.out.below b8
    have D8 := HD7.out.below b8
    have bH := bG.trans (b8.mono bG.size)
    have hl1 := run_loadM N8
    have hl2 := run_loadM D8
    have HS2 := Lib.hid (msame_any _ _ _ _ { m with fr := z } m w8 (HE.out.below bH) (HS.out.below bH) (HE.out.below bH) (HS.out.below bH))
    rw [eqB_ne (fun e => HNE.out e.symm)] at HS2
    unfold mgV at hl1 hl2 HS2
    have HL5 := Lib.hid hl1
    have HL6 := Lib.hid hl2
    clear HL3 HL4 HS1 HN7 HD7 N8 D8 bG hl1 hl2 b8
    go_wp2_with (first | (refine wpList_load_g HL5.out rfl rfl (by rfl) ?_) | (refine wpList_load_g HL6.out rfl rfl (by rfl) ?_))
    refine HS2.out.mono ?_
    rintro e w9 ⟨rfl, b9⟩
    go_wp2_with fail
    go_ret
    exact ⟨rfl, bH.trans (b9.mono bH.size)⟩
  | 2, _ =>
    clear c0 d0 f0 c1 d1 f1 c2 d2 f2 c4 d4 f4 c5 d5 f5 c6 d6 f6 c7 d7 f7 c8 d8 f8 c9 d9 f9 c10 d10 f10 c11 d11 f11 c12 d12 f12 c13 d13 f13 c14 d14 f14 c15 d15 f15 c16 d16 f16
    have hX : ∃ z, z = bits .xor .i64 m.tm 1 ∧ ¬ z = m.tm := ⟨_, rfl, xor1 _ HPR.out.tm.1 HPR.out.tm.2⟩
    obtain ⟨z, hz, hzn⟩ := hX
    have t3 : bits .xor .i64 m.tm 1 = z := hz.symm
    have HZ := Lib.hid hzn
    clear hz hzn
    go_upto_region 22 with (first | (refine wpList_store_run HST.out rfl rfl rfl rfl ?_) | (refine wpList_load_run HLD4.out rfl rfl rfl ?_))
    obtain ⟨w6, hw6⟩ : ∃ w6, w6 = W5.setCell ⟨w4.heap.size, 3, none⟩ (.int .i64 z) := ⟨_, rfl⟩
    have D6 : MgB w6 w4.heap.size (.slice a m.es.length cap) (.slice sa m.ss.length scap) { m with tm := z } := by rw [hw6]; exact MgB.putx HD5.out rfl
    have N6 : MgB w6 b (.slice a m.es.length cap) (.slice sa m.ss.length scap) m := by rw [hw6]; exact MgB.set HN5.out (by omega)
    have bF : Below w.heap.size w w6 := by rw [hw6]; exact bE.setCell (p := ⟨w4.heap.size, 3, none⟩) hnw _
    rw [← hw6]
    have hne : ¬ m = { m with tm := z } := fun e => HZ.out (by rw [e])
    have hl1 := run_loadM N6
    have HS0 := Lib.hid (msame_any _ _ _ _ m m w6 (HE.out.below bF) (HS.out.below bF) (HE.out.below bF) (HS.out.below bF))
    rw [eqB_self] at HS0
    unfold mgV at hl1 HS0
    have HL1 := Lib.hid hl1
    have HN6 := Lib.hid N6
    have HD6 := Lib.hid D6
    have HNE := Lib.hid hne
    clear hw6 HD5 HN5 bE hl1 N6 D6 hne HST HLD4 c3 d3 f3 t3
    go_wp2_with (refine wpList_load_run HL1.out rfl rfl rfl ?_)
    refine HS0.out.mono ?_
    rintro e w7 ⟨rfl, b7⟩
    have N7 := HN6.out.below b7
    have D7 := HD6.out.below b7
    have bG := bF.trans (b7.mono bF.size)
    have hl1 := run_loadM N7
    have hl2 := run_loadM D7
    have HS1 := Lib.hid (msame_any _ _ _ _ m { m with tm := z } w7 (HE.out.below bG) (HS.out.below bG) (HE.out.below bG) (HS.out.below bG))
    rw [eqB_ne HNE.out] at HS1
    unfold mgV at hl1 hl2 HS1
    have HL3 := Lib.hid hl1
    have HL4 := Lib.hid hl2
    have HN7 := Lib.hid N7
    have HD7 := Lib.hid D7
    clear HL1 HS0 HN6 HD6 N7 D7 bF hl1 hl2 b7
    go_wp2_with (first | (refine wpList_load_g HL3.out rfl rfl (by rfl) ?_) | (refine wpList_load_g HL4.out rfl rfl (by rfl) ?_))
    refine HS1.out.mono ?_
    rintro e w8 ⟨rfl, b8⟩
    have N8 := HN7.out.below b8
    have D8 := HD7.out.below b8
    have bH := bG.trans (b8.mono bG.size)
    have hl1 := run_loadM N8
    have hl2 := run_loadM D8
    have HS2 := Lib.hid (msame_any _ _ _ _ { m with tm := z } m w8 (HE.out.below bH) (HS.out.below bH) (HE.out.below bH) (HS.out.below bH))
    rw [eqB_ne (fun e => HNE.out e.symm)] at HS2
    unfold mgV at hl1 hl2 HS2
    have HL5 := Lib.hid hl1
    have HL6 := Lib.hid hl2
    clear HL3 HL4 HS1 HN7 HD7 N8 D8 bG hl1 hl2 b8
    go_wp2_with (first | (refine wpList_load_g HL5.out rfl rfl (by rfl) ?_) | (refine wpList_load_g HL6.out rfl rfl (by rfl) ?_))
    refine HS2.out.mono ?_
    rintro e w9 ⟨rfl, b9⟩
    go_wp2_with fail
    go_ret
    exact ⟨rfl, bH.trans (b9.mono bH.size)⟩
  | 3, _ =>
    clear c0 d0 f0 c1 d1 f1 c2 d2 f2 c3 d3 f3 c5 d5 f5 c6 d6 f6 c7 d7 f7 c8 d8 f8 c9 d9 f9 c10 d10 f10 c11 d11 f11 c12 d12 f12 c13 d13 f13 c14 d14 f14 c15 d15 f15 c16 d16 f16
    have hX : ∃ z, z = bits .xor .i64 m.ix 1 ∧ ¬ z = m.ix := ⟨_, rfl, xor1 _ HPR.out.ix.1 HPR.out.ix.2⟩
    obtain ⟨z, hz, hzn⟩ := hX
    have t3 : bits .xor .i64 m.ix 1 = z := hz.symm
    have HZ := Lib.hid hzn
    clear hz hzn
    go_upto_region 22 with (first | (refine wpList_store_run HST.out rfl rfl rfl rfl ?_) | (refine wpList_load_run HLD4.out rfl rfl rfl ?_))
    obtain ⟨w6, hw6⟩ : ∃ w6, w6 = W5.setCell ⟨w4.heap.size, 4, none⟩ (.int .i64 z) := ⟨_, rfl⟩
    have D6 : MgB w6 w4.heap.size (.slice a m.es.length cap) (.slice sa m.ss.length scap) { m with ix := z } := by rw [hw6]; exact MgB.putx HD5.out rfl
    have N6 : MgB w6 b (.slice a m.es.length cap) (.slice sa m.ss.length scap) m := by rw [hw6]; exact MgB.set HN5.out (by omega)
    have bF : Below w.heap.size w w6 := by rw [hw6]; exact bE.setCell (p := ⟨w4.heap.size, 4, none⟩) hnw _
    rw [← hw6]
    have hne : ¬ m = { m with ix := z } := fun e => HZ.out (by rw [e])
    have hl1 := run_loadM N6
    have HS0 := Lib.hid (msame_any _ _ _ _ m m w6 (HE.out.below bF) (HS.out.below bF) (HE.out.below bF) (HS.out.below bF))
    rw [eqB_self] at HS0
    unfold mgV at hl1 HS0
    have HL1 := Lib.hid hl1
    have HN6 := Lib.hid N6
    have HD6 := Lib.hid D6
    have HNE := Lib.hid hne
    clear hw6 HD5 HN5 bE hl1 N6 D6 hne HST HLD4 c4 d4 f4 t3
    go_wp2_with (refine wpList_load_run HL1.out rfl rfl rfl ?_)
    refine HS0.out.mono ?_
    rintro e w7 ⟨rfl, b7⟩
    have N7 := HN6.out.below b7
    have D7 := HD6.out.below b7
    have bG := bF.trans (b7.mono bF.size)
    have hl1 := run_loadM N7
    have hl2 := run_loadM D7
    have HS1 := Lib.hid (msame_any _ _ _ _ m { m with ix := z } w7 (HE.out.below bG) (HS.out.below bG) (HE.out.below bG) (HS.out.below bG))
    rw [eqB_ne HNE.out] at HS1
    unfold mgV at hl1 hl2 HS1
    have HL3 := Lib.hid hl1
    have HL4 := Lib.hid hl2
    have HN7 := Lib.hid N7
    have HD7 := Lib.hid D7
    clear HL1 HS0 HN6 HD6 N7 D7 bF hl1 hl2 b7
    go_wp2_with (first | (refine wpList_load_g HL3.out rfl rfl (by rfl) ?_) | (refine wpList_load_g HL4.out rfl rfl (by rfl) ?_))
    refine HS1.out.mono ?_
    rintro e w8 ⟨rfl, b8⟩
    have N8 := HN7.out.below b8
    have D8 := HD7.out.below b8
    have bH := bG.trans (b8.mono bG.size)
    have hl1 := run_loadM N8
    have hl2 := run_loadM D8
    have HS2 := Lib.hid (msame_any _ _ _ _ { m with ix := z } m w8 (HE.out.below bH) (HS.out.below bH) (HE.out.below bH) (HS.out.below bH))
    rw [eqB_ne (fun e => HNE.out e.symm)] at HS2
    unfold mgV at hl1 hl2 HS2
    have HL5 := Lib.hid hl1
    have HL6 := Lib.hid hl2
    clear HL3 HL4 HS1 HN7 HD7 N8 D8 bG hl1 hl2 b8
    go_wp2_with (first | (refine wpList_load_g HL5.out rfl rfl (by rfl) ?_) | (refine wpList_load_g HL6.out rfl rfl (by rfl) ?_))
    refine HS2.out.mono ?_
    rintro e w9 ⟨rfl, b9⟩
    go_wp2_with fail
    go_ret
    exact ⟨rfl, bH.trans (b9.mono bH.size)⟩
  | 4, _ =>
    clear c0 d0 f0 c1 d1 f1 c2 d2 f2 c3 d3 f3 c4 d4 f4 c5 d5 f5 c6 d6 f6 c7 d7 f7 c8 d8 f8 c10 d10 f10 c11 d11 f11 c12 d12 f12 c13 d13 f13 c14 d14 f14 c15 d15 f15 c16 d16 f16
    have hX : ∃ z, z = !m.ok ∧ ¬ z = m.ok := ⟨_, rfl, by cases m.ok <;> simp⟩
    obtain ⟨z, hz, hzn⟩ := hX
    have t3 : (!m.ok) = z := hz.symm
    have HZ := Lib.hid hzn
    clear hz hzn
    go_upto_region 22 with (first | (refine wpList_store_run HST.out rfl rfl rfl rfl ?_) | (refine wpList_load_run HLD4.out rfl rfl rfl ?_))
    obtain ⟨w6, hw6⟩ : ∃ w6, w6 = W5.setCell ⟨w4.heap.size, 9, none⟩ (.bool z) := ⟨_, rfl⟩
    have D6 : MgB w6 w4.heap.size (.slice a m.es.length cap) (.slice sa m.ss.length scap) { m with ok := z } := by rw [hw6]; exact MgB.putx HD5.out rfl
    have N6 : MgB w6 b (.slice a m.es.length cap) (.slice sa m.ss.length scap) m := by rw [hw6]; exact MgB.set HN5.out (by omega)
    have bF : Below w.heap.size w w6 := by rw [hw6]; exact bE.setCell (p := ⟨w4.heap.size, 9, none⟩) hnw _
    rw [← hw6]
    have hne : ¬ m = { m with ok := z } := fun e => HZ.out (by rw [e])
    have hl1 := run_loadM N6
    have HS0 := Lib.hid (msame_any _ _ _ _ m m w6 (HE.out.below bF) (HS.out.below bF) (HE.out.below bF) (HS.out.below bF))
    rw [eqB_self] at HS0
    unfold mgV at hl1 HS0
    have HL1 := Lib.hid hl1
    have HN6 := Lib.hid N6
    have HD6 := Lib.hid D6
    have HNE := Lib.hid hne
    clear hw6 HD5 HN5 bE hl1 N6 D6 hne HST HLD4 c9 d9 f9 t3
    go_wp2_with (refine wpList_load_run HL1.out rfl rfl rfl ?_)
    refine HS0.out.mono ?_
    rintro e w7 ⟨rfl, b7⟩
    have N7 := HN6.out.below b7
    have D7 := HD6.out.below b7
    have bG := bF.trans (b7.mono bF.size)
    have hl1 := run_loadM N7
    have hl2 := run_loadM D7
    have HS1 := Lib.hid (msame_any _ _ _ _ m { m with ok := z } w7 (HE.out.below bG) (HS.out.below bG) (HE.out.below bG) (HS.out.below bG))
    rw [eqB_ne HNE.out] at HS1
    unfold mgV at hl1 hl2 HS1
    have HL3 := Lib.hid hl1
    have HL4 := Lib.hid hl2
    have HN7 := Lib.hid N7
    have HD7 := Lib.hid D7
    clear HL1 HS0 HN6 HD6 N7 D7 bF hl1 hl2 b7
    go_wp2_with (first | (refine wpList_load_g HL3.out rfl rfl (by rfl) ?_) | (refine wpList_load_g HL4.out rfl rfl (by rfl) ?_))
    refine HS1.out.mono ?_
    rintro e w8 ⟨rfl, b8⟩
    have N8 := HN7.out.below b8
    have D8 := HD7.out.below b8
    have bH := bG.trans (b8.mono bG.size)
    have hl1 := run_loadM N8
    have hl2 := run_loadM D8
    have HS2 := Lib.hid (msame_any _ _ _ _ { m with ok := z } m w8 (HE.out.below bH) (HS.out.below bH) (HE.out.below bH) (HS.out.below bH))
    rw [eqB_ne (fun e => HNE.out e.symm)] at HS2
    unfold mgV at hl1 hl2 HS2
    have HL5 := Lib.hid hl1
    have HL6 := Lib.hid hl2
    clear HL3 HL4 HS1 HN7 HD7 N8 D8 bG hl1 hl2 b8
    go_wp2_with (first | (refine wpList_load_g HL5.out rfl rfl (by rfl) ?_) | (refine wpList_load_g HL6.out rfl rfl (by rfl) ?_))
    refine HS2.out.mono ?_
    rintro e w9 ⟨rfl, b9⟩
    go_wp2_with fail
    go_ret
    exact ⟨rfl, bH.trans (b9.mono bH.size)⟩
  | 5, _ =>
    clear c0 d0 f0 c1 d1 f1 c2 d2 f2 c3 d3 f3 c4 d4 f4 c5 d5 f5 c6 d6 f6 c7 d7 f7 c8 d8 f8 c9 d9 f9 c10 d10 f10 c11 d11 f11 c12 d12 f12 c14 d14 f14 c15 d15 f15 c16 d16 f16
    have hX : ∃ z, z = bits .xor .i64 m.lb 1 ∧ ¬ z = m.lb := ⟨_, rfl, xor1 _ HPR.out.lb.1 HPR.out.lb.2⟩
    obtain ⟨z, hz, hzn⟩ := hX
    have t3 : bits .xor .i64 m.lb 1 = z := hz.symm
    have HZ := Lib.hid hzn
    clear hz hzn
    go_upto_region 22 with (first | (refine wpList_store_run HST.out rfl rfl rfl rfl ?_) | (refine wpList_load_run HLD4.out rfl rfl rfl ?_))
    obtain ⟨w6, hw6⟩ : ∃ w6, w6 = W5.setCell ⟨w4.heap.size, 13, none⟩ (.int .i64 z) := ⟨_, rfl⟩
    have D6 : MgB w6 w4.heap.size (.slice a m.es.length cap) (.slice sa m.ss.length scap) { m with lb := z } := by rw [hw6]; exact MgB.putx HD5.out rfl
    have N6 : MgB w6 b (.slice a m.es.length cap) (.slice sa m.ss.length scap) m := by rw [hw6]; exact MgB.set HN5.out (by omega)
    have bF : Below w.heap.size w w6 := by rw [hw6]; exact bE.setCell (p := ⟨w4.heap.size, 13, none⟩) hnw _
    rw [← hw6]
    have hne : ¬ m = { m with lb := z } := fun e => HZ.out (by rw [e])
    have hl1 := run_loadM N6
    have HS0 := Lib.hid (msame_any _ _ _ _ m m w6 (HE.out.below bF) (HS.out.below bF) (HE.out.below bF) (HS.out.below bF))
    rw [eqB_self] at HS0
    unfold mgV at hl1 HS0
    have HL1 := Lib.hid hl1
    have HN6 := Lib.hid N6
    have HD6 := Lib.hid D6
    have HNE := Lib.hid hne
    clear hw6 HD5 HN5 bE hl1 N6 D6 hne HST HLD4 c13 d13 f13 t3
    go_wp2_with (refine wpList_load_run HL1.out rfl rfl rfl ?_)
    refine HS0.out.mono ?_
    rintro e w7 ⟨rfl, b7⟩
    have N7 := HN6.out.below b7
    have D7 := HD6.out.below b7
    have bG := bF.trans (b7.mono bF.size)
    have hl1 := run_loadM N7
    have hl2 := run_loadM D7
    have HS1 := Lib.hid (msame_any _ _ _ _ m { m with lb := z } w7 (HE.out.below bG) (HS.out.below bG) (HE.out.below bG) (HS.out.below bG))
    rw [eqB_ne HNE.out] at HS1
    unfold mgV at hl1 hl2 HS1
    have HL3 := Lib.hid hl1
    have HL4 := Lib.hid hl2
    have HN7 := Lib.hid N7
    have HD7 := Lib.hid D7
    clear HL1 HS0 HN6 HD6 N7 D7 bF hl1 hl2 b7
    go_wp2_with (first | (refine wpList_load_g HL3.out rfl rfl (by rfl) ?_) | (refine wpList_load_g HL4.out rfl rfl (by rfl) ?_))
    refine HS1.out.mono ?_
    rintro e w8 ⟨rfl, b8⟩
    have N8 := HN7.out.below b8
    have D8 := HD7.out.below b8
    have bH := bG.trans (b8.mono bG.size)
    have hl1 := run_loadM N8
    have hl2 := run_loadM D8
    have HS2 := Lib.hid (msame_any _ _ _ _ { m with lb := z } m w8 (HE.out.below bH) (HS.out.below bH) (HE.out.below bH) (HS.out.below bH))
    rw [eqB_ne (fun e => HNE.out e.symm)] at HS2
    unfold mgV at hl1 hl2 HS2
    have HL5 := Lib.hid hl1
    have HL6 := Lib.hid hl2
    clear HL3 HL4 HS1 HN7 HD7 N8 D8 bG hl1 hl2 b8
    go_wp2_with (first | (refine wpList_load_g HL5.out rfl rfl (by rfl) ?_) | (refine wpList_load_g HL6.out rfl rfl (by rfl) ?_))
    refine HS2.out.mono ?_
    rintro e w9 ⟨rfl, b9⟩
    go_wp2_with fail
    go_ret
    exact ⟨rfl, bH.trans (b9.mono bH.size)⟩
  | 6, _ =>
    clear c0 d0 f0 c1 d1 f1 c2 d2 f2 c3 d3 f3 c4 d4 f4 c5 d5 f5 c6 d6 f6 c7 d7 f7 c8 d8 f8 c9 d9 f9 c11 d11 f11 c12 d12 f12 c13 d13 f13 c14 d14 f14 c15 d15 f15 c16 d16 f16
    have hX : ∃ z, z = bits .and .i64 (m.st + 1) 3 ∧ ¬ z = m.st := ⟨_, rfl, by
      have := HPR.out.st
      have h4 : m.st = 0 ∨ m.st = 1 ∨ m.st = 2 ∨ m.st = 3 := by omega
      rcases h4 with e | e | e | e <;> rw [e] <;> decide⟩
    obtain ⟨z, hz, hzn⟩ := hX
    have t1 : IntKind.i64.wrap (m.st + 1) = m.st + 1 := IntWalk.i64_in _ (by have := HPR.out.st; omega)
    have t3 : bits .and .i64 (m.st + 1) 3 = z := hz.symm
    have HZ := Lib.hid hzn
    clear hz hzn
    go_upto_region 22 with (first | (refine wpList_store_run HST.out rfl rfl rfl rfl ?_) | (refine wpList_load_run HLD4.out rfl rfl rfl ?_))
    obtain ⟨w6, hw6⟩ : ∃ w6, w6 = W5.setCell ⟨w4.heap.size, 10, none⟩ (.int .i64 z) := ⟨_, rfl⟩
    have D6 : MgB w6 w4.heap.size (.slice a m.es.length cap) (.slice sa m.ss.length scap) { m with st := z } := by rw [hw6]; exact MgB.putx HD5.out rfl
    have N6 : MgB w6 b (.slice a m.es.length cap) (.slice sa m.ss.length scap) m := by rw [hw6]; exact MgB.set HN5.out (by omega)
    have bF : Below w.heap.size w w6 := by rw [hw6]; exact bE.setCell (p := ⟨w4.heap.size, 10, none⟩) hnw _
    rw [← hw6]
    have hne : ¬ m = { m with st := z } := fun e => HZ.out (by rw [e])
    have hl1 := run_loadM N6
    have HS0 := Lib.hid (msame_any _ _ _ _ m m w6 (HE.out.below bF) (HS.out.below bF) (HE.out.below bF) (HS.out.below bF))
    rw [eqB_self] at HS0
    unfold mgV at hl1 HS0
    have HL1 := Lib.hid hl1
    have HN6 := Lib.hid N6
    have HD6 := Lib.hid D6
    have HNE := Lib.hid hne
    clear hw6 HD5 HN5 bE hl1 N6 D6 hne HST HLD4 c10 d10 f10 t3 t1
    go_wp2_with (refine wpList_load_run HL1.out rfl rfl rfl ?_)
    refine HS0.out.mono ?_
    rintro e w7 ⟨rfl, b7⟩
    have N7 := HN6.out.below b7
    have D7 := HD6.out.below b7
    have bG := bF.trans (b7.mono bF.size)
    have hl1 := run_loadM N7
    have hl2 := run_loadM D7
    have HS1 := Lib.hid (msame_any _ _ _ _ m { m with st := z } w7 (HE.out.below bG) (HS.out.below bG) (HE.out.below bG) (HS.out.below bG))
    rw [eqB_ne HNE.out] at HS1
    unfold mgV at hl1 hl2 HS1
    have HL3 := Lib.hid hl1
    have HL4 := Lib.hid hl2
    have HN7 := Lib.hid N7
    have HD7 := Lib.hid D7
    clear HL1 HS0 HN6 HD6 N7 D7 bF hl1 hl2 b7
    go_wp2_with (first | (refine wpList_load_g HL3.out rfl rfl (by rfl) ?_) | (refine wpList_load_g HL4.out rfl rfl (by rfl) ?_))
    refine HS1.out.mono ?_
    rintro e w8 ⟨rfl, b8⟩
    have N8 := HN7.out.below b8
    have D8 := HD7.out.below b8
    have bH := bG.trans (b8.mono bG.size)
    have hl1 := run_loadM N8
    have hl2 := run_loadM D8
    have HS2 := Lib.hid (msame_any _ _ _ _ { m with st := z } m w8 (HE.out.below bH) (HS.out.below bH) (HE.out.below bH) (HS.out.below bH))
    rw [eqB_ne (fun e => HNE.out e.symm)] at HS2
    unfold mgV at hl1 hl2 HS2
    have HL5 := Lib.hid hl1
    have HL6 := Lib.hid hl2
    clear HL3 HL4 HS1 HN7 HD7 N8 D8 bG hl1 hl2 b8
    go_wp2_with (first | (refine wpList_load_g HL5.out rfl rfl (by rfl) ?_) | (refine wpList_load_g HL6.out rfl rfl (by rfl) ?_))
    refine HS2.out.mono ?_
    rintro e w9 ⟨rfl, b9⟩
    go_wp2_with fail
    go_ret
    exact ⟨rfl, bH.trans (b9.mono bH.size)⟩
  | 7, _ =>
    clear c0 d0 f0 c1 d1 f1 c2 d2 f2 c3 d3 f3 c4 d4 f4 c5 d5 f5 c6 d6 f6 c8 d8 f8 c9 d9 f9 c10 d10 f10 c11 d11 f11 c12 d12 f12 c13 d13 f13 c14 d14 f14 c15 d15 f15 c16 d16 f16
    have hX : ∃ z, z = bits .xor .i64 m.co 1 ∧ ¬ z = m.co := ⟨_, rfl, xor1 _ HPR.out.co.1 HPR.out.co.2⟩
    obtain ⟨z, hz, hzn⟩ := hX
    have t3 : bits .xor .i64 m.co 1 = z := hz.symm
    have HZ := Lib.hid hzn
    clear hz hzn
    go_upto_region 22 with (first | (refine wpList_store_run HST.out rfl rfl rfl rfl ?_) | (refine wpList_load_run HLD4.out rfl rfl rfl ?_))
    obtain ⟨w6, hw6⟩ : ∃ w6, w6 = W5.setCell ⟨w4.heap.size, 7, none⟩ (.int .i64 z) := ⟨_, rfl⟩
    have D6 : MgB w6 w4.heap.size (.slice a m.es.length cap) (.slice sa m.ss.length scap) { m with co := z } := by rw [hw6]; exact MgB.putx HD5.out rfl
    have N6 : MgB w6 b (.slice a m.es.length cap) (.slice sa m.ss.length scap) m := by rw [hw6]; exact MgB.set HN5.out (by omega)
    have bF : Below w.heap.size w w6 := by rw [hw6]; exact bE.setCell (p := ⟨w4.heap.size, 7, none⟩) hnw _
    rw [← hw6]
    have hne : ¬ m = { m with co := z } := fun e => HZ.out (by rw [e])
    have hl1 := run_loadM N6
    have HS0 := Lib.hid (msame_any _ _ _ _ m m w6 (HE.out.below bF) (HS.out.below bF) (HE.out.below bF) (HS.out.below bF))
    rw [eqB_self] at HS0
    unfold mgV at hl1 HS0
    have HL1 := Lib.hid hl1
    have HN6 := Lib.hid N6
    have HD6 := Lib.hid D6
    have HNE := Lib.hid hne
    clear hw6 HD5 HN5 bE hl1 N6 D6 hne HST HLD4 c7 d7 f7 t3
    go_wp2_with (refine wpList_load_run HL1.out rfl rfl rfl ?_)
    refine HS0.out.mono ?_
    rintro e w7 ⟨rfl, b7⟩
    have N7 := HN6.out.below b7
    have D7 := HD6.out.below b7
    have bG := bF.trans (b7.mono bF.size)
    have hl1 := run_loadM N7
    have hl2 := run_loadM D7
    have HS1 := Lib.hid (msame_any _ _ _ _ m { m with co := z } w7 (HE.out.below bG) (HS.out.below bG) (HE.out.below bG) (HS.out.below bG))
    rw [eqB_ne HNE.out] at HS1
    unfold mgV at hl1 hl2 HS1
    have HL3 := Lib.hid hl1
    have HL4 := Lib.hid hl2
    have HN7 := Lib.hid N7
    have HD7 := Lib.hid D7
    clear HL1 HS0 HN6 HD6 N7 D7 bF hl1 hl2 b7
    go_wp2_with (first | (refine wpList_load_g HL3.out rfl rfl (by rfl) ?_) | (refine wpList_load_g HL4.out rfl rfl (by rfl) ?_))
    refine HS1.out.mono ?_
    rintro e w8 ⟨rfl, b8⟩
    have N8 := HN7.out.below b8
    have D8 := HD7.out.below b8
    have bH := bG.trans (b8.mono bG.size)
    have hl1 := run_loadM N8
    have hl2 := run_loadM D8
    have HS2 := Lib.hid (msame_any _ _ _ _ { m with co := z } m w8 (HE.out.below bH) (HS.out.below bH) (HE.out.below bH) (HS.out.below bH))
    rw [eqB_ne (fun e => HNE.out e.symm)] at HS2
    unfold mgV at hl1 hl2 HS2
    have HL5 := Lib.hid hl1
    have HL6 := Lib.hid hl2
    clear HL3 HL4 HS1 HN7 HD7 N8 D8 bG hl1 hl2 b8
    go_wp2_with (first | (refine wpList_load_g HL5.out rfl rfl (by rfl) ?_) | (refine wpList_load_g HL6.out rfl rfl (by rfl) ?_))
    refine HS2.out.mono ?_
    rintro e w9 ⟨rfl, b9⟩
    go_wp2_with fail
    go_ret
    exact ⟨rfl, bH.trans (b9.mono bH.size)⟩

theorem own : ownKnob Try.prog.godebug = none := by kernel_rfl
theorem laidOut : laidOutB Try.prog = true := by kernel_rfl

set_option maxRecDepth 100000 in
theorem lifted (os : Os) (started : os.Started) (H : Type) (enc : TypeId × Value → H) :
    ReturnsInHanded {} Try.checked os 5 .any (Rows.msgApartSpec.pre6 enc Try.prog Try.f5 Rows.msgApartRow.domain false) (Rows.msgApartSpec.post enc Try.prog Try.f5 false true false false) := by
  refine returnsInHanded_of_change (C := Try.checked) own started (by kernel_rfl) Try.func5
    (ChangeSpec.witness6 (enc := enc) (C := Try.checked) false ⟨#[], #[.agg #[.int .i64 0, .int .i64 0, .int .i64 0, .int .i64 0, .int .i64 0, .int .i64 0, .int .i64 0, .int .i64 0, .slice none 0 0, .bool false, .int .i64 0, .int .i64 0, .int .i64 0, .int .i64 0, .slice none 0 0, .int .i64 0, .string ByteArray.empty], .int .i64 0], []⟩ 8 (by kernel_rfl) (by kernel_rfl) (by kernel_rfl) (by kernel_rfl)) ?_
  intro W base args ds gs before hval0 hW hcnd _
  have hval : ∀ (j : Nat) t v, Try.f5.params[j]? = some t → args[j]? = some v → Value.okWide Try.prog W .any base t v := hval0
  have hW' := hW
  obtain ⟨p, q, hA0, hV, rfl, hfz, hnd⟩ := hW
  have hA : DataW.TrodAll enc Try.prog W 0 (fun _ => true) true Try.f5.params.toList args.toList ds p := hA0
  rw [Try.params5] at hA hval
  obtain ⟨v0, vs0, d0, ds0, p0, q0, hargs, rfl, rfl, h0, r0⟩ := trodAll_cons hA
  obtain ⟨v1, vs1, d1, ds1, p1, q1, rfl, rfl, rfl, h1, r1⟩ := trodAll_cons r0
  obtain ⟨rfl, rfl, rfl⟩ := trodAll_nil r1
  obtain rfl : args = #[v0, v1] := by cases args; simp_all
  obtain ⟨rfl, rfl⟩ := trodVars_none hV
  have k0 := h0
  have lt0 : ∀ x ∈ p0, x.block < W.heap.size := by obtain ⟨m, hm⟩ := k0; exact DataW.trod_lt m _ _ _ hm
  obtain ⟨z0, w0⟩ := msg_of (hval 0 29 v0 rfl rfl) h0
  obtain ⟨a1, rfl, rfl, rfl, w1⟩ := open_int Try.underlying3 (hval 1 3 v1 rfl rfl) h1
  clear hA0 hval0
  refine (walk v0 z0 a1 W w0 w1).mono fun e W' ⟨he, bel⟩ => ?_
  subst he
  exact ⟨_, rfl, _, _, _, [], _, [], hW', trodAll_mk1 (shut_bool Try.underlying4 _), (trodAll_cons_mk (Below.trod laidOut (by kernel_rfl) (of_decide_eq_true (by kernel_rfl)) k0 bel lt0) (trodAll_cons_mk (shut_int Try.underlying3 w1) trodAll_mk0)), rfl, bel.frame _, fun h => by cases h⟩

theorem over : Rows.msgApartRow.holds Try.pinned (OpenSpec.ofChange Rows.msgApartSpec) :=
  OpenClaim.holds_of_wide 5 Try.f5 rfl rfl rfl rfl rfl rfl rfl ⟨rfl, rfl, rfl, rfl, rfl⟩ rfl rfl rfl rfl rfl (by kernel_rfl) Try.func5 (by kernel_rfl)
    (of_decide_eq_true (by kernel_rfl)) (by unfold Func.isWrapper; first | (rw [if_pos (by decide +kernel)]; kernel_rfl) | (rw [if_neg (by decide +kernel)]; exact ⟨rfl, rfl⟩))
    (fun os started H enc _ => lifted os started H enc)

theorem proved : Rows.MsgApartSaid := over
end Go.Proofs.Ytddkbninkncbeaa.msgApart
