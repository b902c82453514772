/- Read of a command. No conditions beyond those in each statement. -/
import Derived.Test.YtkdbkbfloiponaaOpRow
namespace Go.Proofs.Ytkdbkbfloiponaa
open Go.RowKit
set_option linter.unusedVariables false
set_option linter.unusedSimpArgs false
set_option maxRecDepth 100000

/-- What Read reads, by parts. -/
structure Rk where
  k : Int
  s : Int
  q : Int
  n : Int
  N : Nat
  st0 : RS
  p : List UInt8
  x : Bool
  y : Bool
  st : RS
def rdK (st : RS) : Rk :=
  let k := numF 6 5 st
  let s := numF 6 281474976710655 k.2
  let q := numF 6 281474976710655 s.2
  let n := numF 6 281474976710655 q.2
  let m := numF 6 4 n.2
  let p := textF 60 (rdOs m.1.toNat m.2).2
  let x := flagF p.2
  let y := flagF x.2
  ⟨k.1, s.1, q.1, n.1, m.1.toNat, m.2, p.1, x.1, y.1, y.2⟩
def rdC (st : RS) : Cm × RS := (⟨(rdK st).k, (rdK st).s, (rdK st).q, (rdK st).n, (rdOs (rdK st).N (rdK st).st0).1, ⟨(rdK st).p.toArray⟩, (rdK st).x, (rdK st).y⟩, (rdK st).st)
def readC (l : List UInt8) : Cm × Int := if doneF (rdC (some l)).2 = 0 ∧ rightC (rdC (some l)).1 = true ∧ l.length ≤ 488 then ((rdC (some l)).1, 0) else (Cm.zero, 2)
theorem below8 {m b : Nat} {w x : World} (h : Below m w x) (hb : m ≤ b) (v0 v1 v2 v3 v4 v5 v6 v7 : Value) : Below m w ((((((((x.setCell ⟨b, 0, none⟩ v0).setCell ⟨b, 1, none⟩ v1).setCell ⟨b, 2, none⟩ v2).setCell ⟨b, 3, none⟩ v3).setCell ⟨b, 4, none⟩ v4).setCell ⟨b, 5, none⟩ v5).setCell ⟨b, 6, none⟩ v6).setCell ⟨b, 7, none⟩ v7) :=
  (((((((h.setCell hb _).setCell hb _).setCell hb _).setCell hb _).setCell hb _).setCell hb _).setCell hb _).setCell hb _
theorem CmB.set8 {x : World} {b : Nat} {u v : Value} {m : Cm} (h : CmB x b u m) (n : Cm) : CmB ((((((((x.setCell ⟨b, 0, none⟩ (.int .i64 n.kind)).setCell ⟨b, 1, none⟩ (.int .i64 n.ses)).setCell ⟨b, 2, none⟩ (.int .i64 n.req)).setCell ⟨b, 3, none⟩ (.int .i64 n.noted)).setCell ⟨b, 4, none⟩ v).setCell ⟨b, 5, none⟩ (.string n.path)).setCell ⟨b, 6, none⟩ (.bool n.kids)).setCell ⟨b, 7, none⟩ (.bool n.once)) b v n := by
  unfold CmB cmA at h ⊢
  have h0 := block_setCell (i := 0) (u := .int .i64 n.kind) h
  have h1 := block_setCell (i := 1) (u := .int .i64 n.ses) h0
  have h2 := block_setCell (i := 2) (u := .int .i64 n.req) h1
  have h3 := block_setCell (i := 3) (u := .int .i64 n.noted) h2
  have h4 := block_setCell (i := 4) (u := v) h3
  have h5 := block_setCell (i := 5) (u := .string n.path) h4
  have h6 := block_setCell (i := 6) (u := .bool n.kids) h5
  have h7 := block_setCell (i := 7) (u := .bool n.once) h6
  simp only [List.setIfInBounds_toArray, List.set_cons_zero, List.set_cons_succ] at h7
  exact h7
theorem CmB.put4 {x : World} {b : Nat} {u v : Value} {m : Cm} (h : CmB x b u m) (L : List Opr) : CmB (x.setCell ⟨b, 4, none⟩ v) b v { m with ops := L } := by
  unfold CmB cmA at h ⊢
  have h0 := block_setCell (i := 4) (u := v) h
  simp only [List.setIfInBounds_toArray, List.set_cons_zero, List.set_cons_succ] at h0
  exact h0
theorem CmB.put5 {x : World} {b : Nat} {v : Value} {m : Cm} (h : CmB x b v m) (p : ByteArray) : CmB (x.setCell ⟨b, 5, none⟩ (.string p)) b v { m with path := p } := by
  unfold CmB cmA at h ⊢
  have h0 := block_setCell (i := 5) (u := .string p) h
  simp only [List.setIfInBounds_toArray, List.set_cons_zero, List.set_cons_succ] at h0
  exact h0
theorem CmB.put6 {x : World} {b : Nat} {v : Value} {m : Cm} (h : CmB x b v m) (p : Bool) : CmB (x.setCell ⟨b, 6, none⟩ (.bool p)) b v { m with kids := p } := by
  unfold CmB cmA at h ⊢
  have h0 := block_setCell (i := 6) (u := .bool p) h
  simp only [List.setIfInBounds_toArray, List.set_cons_zero, List.set_cons_succ] at h0
  exact h0
theorem CmB.put7 {x : World} {b : Nat} {v : Value} {m : Cm} (h : CmB x b v m) (p : Bool) : CmB (x.setCell ⟨b, 7, none⟩ (.bool p)) b v { m with once := p } := by
  unfold CmB cmA at h ⊢
  have h0 := block_setCell (i := 7) (u := .bool p) h
  simp only [List.setIfInBounds_toArray, List.set_cons_zero, List.set_cons_succ] at h0
  exact h0
theorem oread_results (W : World) (tmps : Array Value) (b : Nat) (v : Value) (n : Cm) (e : Int) (h2 : tmps.getD 2 undef = .pointer (some ⟨b, 0, none⟩)) (h3 : tmps.getD 3 undef = .int .i64 e) (hN : CmB W b v n) :
    (results Try.f9 tmps).run Try.prog W = .ok (.tuple #[cmV v n, .int .i64 e]) W := by
  obtain ⟨⟨c0, c1, c2, c3, c4, c5, c6, c7⟩, _⟩ := CmB.cells hN
  simp at h2 h3
  simp [results, Try.results9, go_sem, h2, h3, c0, c1, c2, c3, c4, c5, c6, c7, cmV]
set_option maxHeartbeats 8000000 in
theorem oread_any (s : ByteArray) (w : World) (hs : s.size ≤ 140737488355328) :
    Calls Try.prog 9 #[.string s] w fun e w' => ∃ u, e = .returned (.tuple #[cmV u (readC s.data.toList).1, .int .i64 (readC s.data.toList).2]) ∧ ORow w' w.heap.size u (readC s.data.toList).1.ops ∧ Below w.heap.size w w' := by
  obtain ⟨l, hl⟩ : ∃ l, l = s.data.toList := ⟨_, rfl⟩
  have hls : l.length = s.size := by rw [hl, ← Lib.size_eq]
  have b1 := (Below.refl _ w).alloc (Nat.le_refl _) (.cells (cmA (.slice none 0 0) Cm.zero) 26)
  have N1 := CmB.new w (.slice none 0 0) Cm.zero
  have hRK : readC l = if doneF (rdK (some l)).st = 0 ∧ rightC (rdC (some l)).1 = true ∧ l.length ≤ 488 then ((rdC (some l)).1, 0) else (Cm.zero, 2) := rfl
  obtain ⟨cR, hcR⟩ : ∃ c, c = (rdC (some l)).1 := ⟨_, rfl⟩
  obtain ⟨Y, hY⟩ : ∃ Y, Y = readC l := ⟨_, rfl⟩
  obtain ⟨A, hA⟩ : ∃ A, A = numF 6 5 (some l) := ⟨_, rfl⟩
  obtain ⟨B, hB⟩ : ∃ B, B = numF 6 281474976710655 A.2 := ⟨_, rfl⟩
  obtain ⟨C, hC⟩ : ∃ C, C = numF 6 281474976710655 B.2 := ⟨_, rfl⟩
  obtain ⟨D, hD⟩ : ∃ D, D = numF 6 281474976710655 C.2 := ⟨_, rfl⟩
  obtain ⟨M, hM⟩ : ∃ M, M = numF 6 4 D.2 := ⟨_, rfl⟩
  obtain ⟨T, hT⟩ : ∃ T, T = textF 60 (rdOs M.1.toNat M.2).2 := ⟨_, rfl⟩
  obtain ⟨X, hX⟩ : ∃ X, X = flagF T.2 := ⟨_, rfl⟩
  obtain ⟨Z, hZ⟩ : ∃ Z, Z = flagF X.2 := ⟨_, rfl⟩
  have eK : rdK (some l) = ⟨A.1, B.1, C.1, D.1, M.1.toNat, M.2, T.1, X.1, Z.1, Z.2⟩ := by rw [hZ, hX, hT, hM, hD, hC, hB, hA]; rfl
  have eC : cR = ⟨A.1, B.1, C.1, D.1, (rdOs M.1.toNat M.2).1, ⟨T.1.toArray⟩, X.1, Z.1⟩ := by rw [hcR]; unfold rdC; rw [eK]
  rw [eK, ← hcR, ← hY] at hRK
  have qA := numF_most (some l) 5 (by decide)
  have qB := numF_most A.2 281474976710655 (by decide)
  have qC := numF_most B.2 281474976710655 (by decide)
  have qD := numF_most C.2 281474976710655 (by decide)
  have qM := numF_most D.2 4 (by decide)
  have qT := textF_len 60 (rdOs M.1.toNat M.2).2
  rw [show ((60 : Nat) : Int) = 60 from rfl] at qT
  rw [← hA] at qA
  rw [← hB] at qB
  rw [← hC] at qC
  rw [← hD] at qD
  rw [← hM] at qM
  rw [← hT, ← size_arr] at qT
  have HA := Lib.hid hA
  have HBq := Lib.hid hB
  have HC := Lib.hid hC
  have HD := Lib.hid hD
  have HM := Lib.hid hM
  have HT := Lib.hid hT
  have HX := Lib.hid hX
  have HZ := Lib.hid hZ
  have HRK := Lib.hid hRK
  have HEC := Lib.hid eC
  have HYY := Lib.hid hY
  obtain ⟨N, hN⟩ := Int.eq_ofNat_of_zero_le qM.1
  have hN4 : N ≤ 4 := by omega
  have HNT : Hid (M.1.toNat = N) := Lib.hid (by omega)
  have HNM : Hid (M.1 = (N : Int)) := Lib.hid hN
  rw [← hl, ← hY]
  clear hA hB hC hD hM hT hX hZ hRK eK eC hcR hY hN
  have HRD := Lib.hid (read_any s (w.alloc (.cells (cmA (.slice none 0 0) Cm.zero) 26)))
  have HN1 := Lib.hid N1
  clear N1
  go_enter Try.func9, Try.ntmps9
  go_wp2_with fail
  refine HRD.out.mono ?_
  rintro e w2 ⟨rfl, R2, b2, hsz2⟩
  obtain ⟨w1, hw1⟩ : ∃ w1, w1 = w.alloc (.cells (cmA (.slice none 0 0) Cm.zero) 26) := ⟨_, rfl⟩
  rw [← hw1] at b1 b2 hsz2 R2 HN1 ⊢
  have hw1s : w1.heap.size = w.heap.size + 1 := by rw [hw1]; simp
  have R2' : Rs w2 w1.heap.size (some l) := ⟨by rw [hl, ← mk_data]; exact R2, by rw [hls]; omega⟩
  obtain ⟨rb, hrb⟩ : ∃ rb, rb = w1.heap.size := ⟨_, rfl⟩
  rw [← hrb] at R2' ⊢
  have hrw : w.heap.size < rb := by omega
  have b12 := b1.trans (b2.mono b1.size)
  have N2 := HN1.out.below b2
  have hrl := R2'.lt
  have HC1 := Lib.hid (num_rs rb 5 _ w2 R2')
  rw [show max (5 : Int) 0 = 5 by decide, ← HA.out] at HC1
  have HC2 := Lib.hid (fun (W : World) (hW : Rs W rb A.2) => num_rs rb 281474976710655 _ W hW)
  have HC3 := Lib.hid (fun (W : World) (hW : Rs W rb B.2) => num_rs rb 281474976710655 _ W hW)
  have HC4 := Lib.hid (fun (W : World) (hW : Rs W rb C.2) => num_rs rb 281474976710655 _ W hW)
  have HC5 := Lib.hid (fun (W : World) (hW : Rs W rb D.2) => num_rs rb 4 _ W hW)
  rw [show max (281474976710655 : Int) 0 = 281474976710655 by decide] at HC2 HC3 HC4
  rw [show max (4 : Int) 0 = 4 by decide] at HC5
  rw [← HBq.out] at HC2
  rw [← HC.out] at HC3
  rw [← HD.out] at HC4
  rw [← HM.out] at HC5
  obtain ⟨vA, sA⟩ := A
  obtain ⟨vB, sB⟩ := B
  obtain ⟨vC, sC⟩ := C
  obtain ⟨vD, sD⟩ := D
  obtain ⟨vM, sM⟩ := M
  simp only at HC1 HC2 HC3 HC4 HC5 HEC HNT HNM HT qA qB qC qD qM qT
  have HN2 := Lib.hid N2
  have HB12 := Lib.hid b12
  clear hw1 hw1s hrb HRD R2 R2' b1 b2 hsz2 HN1 N2 b12 HA HBq HC HD HM
  go_wp2_with fail
  refine HC1.out.mono ?_
  rintro e w3 ⟨rfl, R3, g3⟩
  go_wp2_with fail
  refine (HC2.out _ R3).mono ?_
  rintro e w4 ⟨rfl, R4, g4⟩
  go_wp2_with fail
  refine (HC3.out _ R4).mono ?_
  rintro e w5 ⟨rfl, R5, g5⟩
  go_wp2_with fail
  refine (HC4.out _ R5).mono ?_
  rintro e w6 ⟨rfl, R6, g6⟩
  have gg := only_trans (only_trans (only_trans g3 g4) g5) g6
  have bC := HB12.out.grown gg HB12.out.size (fun q hq => by have := Option.some.inj hq; omega)
  have N6 := HN2.out.kept gg (fun e => by have := Option.some.inj e; omega)
  have hw6 := bC.size
  have bCb := (Below.refl _ w6).alloc (Nat.le_refl _) (.cells (cmA (.slice none 0 0) ⟨vA, vB, vC, vD, [], ⟨#[]⟩, false, false⟩) 26)
  have K7 := CmB.new w6 (.slice none 0 0) ⟨vA, vB, vC, vD, [], ⟨#[]⟩, false, false⟩
  have N7 := N6.below bCb
  have R7 := R6.below bCb
  have hrl6 := R6.lt
  have b7 := bC.trans (bCb.mono bC.size)
  clear R3 R4 R5 R6 g3 g4 g5 g6 gg HC1 HC2 HC3 HC4 N6 bC HB12 HN2
  go_upto_region 3 with fail
  obtain ⟨w7, hw7⟩ : ∃ w7, w7 = w6.alloc (.cells (cmA (.slice none 0 0) ⟨vA, vB, vC, vD, [], ⟨#[]⟩, false, false⟩) 26) := ⟨_, rfl⟩
  have hw7' := hw7
  unfold cmA at hw7'
  simp only at hw7'
  rw [← hw7] at K7 N7 R7 b7
  rw [← hw7']
  obtain ⟨cb, hcb⟩ : ∃ cb, cb = w6.heap.size := ⟨_, rfl⟩
  rw [← hcb] at K7 ⊢
  have hcb7 := K7.lt
  have hd : w.heap.size < cb + 1 ∧ rb < cb + 1 ∧ cb < cb + 1 ∧ w.heap.size ≠ rb ∧ cb ≠ rb ∧ w.heap.size ≤ rb := by omega
  have hcw : w.heap.size ≠ cb ∧ w.heap.size ≤ cb ∧ rb < cb := by omega
  have HKN := Lib.hid (show CmB w7 cb (.slice none 0 0) ⟨vA, vB, vC, vD, (rdOs 0 sM).1, ⟨#[]⟩, false, false⟩ from K7)
  have HC6 := Lib.hid (HC5.out _ R7)
  have HN7 := Lib.hid N7
  have HB7 := Lib.hid b7
  clear hw7 hw7' hcb K7 N7 R7 b7 bCb HC5
  rw [HNM.out] at HC6
  go_wp2_with fail
  refine HC6.out.mono ?_
  rintro e w8 ⟨rfl, R8, g8⟩
  have K8 := HKN.out.kept g8 (fun e => hd.2.2.2.2.1 (Option.some.inj e))
  have N8 := HN7.out.kept g8 (fun e => hd.2.2.2.1 (Option.some.inj e))
  have b8 := HB7.out.grown g8 HB7.out.size (fun q hq => by have := Option.some.inj hq; omega)
  have l8 : cb + 1 ≤ w8.heap.size := Nat.le_trans hcb7 g8.size
  clear HC6 HKN HN7 HB7 g8
  go_wp2_with fail
  go_loopw [19] (fun iv wr => ∃ (j : Nat) (a : Option Addr) (c : Nat), j ≤ N ∧ iv = .int .i64 j ∧ CmB wr cb (.slice a j c) ⟨vA, vB, vC, vD, (rdOs j sM).1, ⟨#[]⟩, false, false⟩ ∧ ORow wr (cb + 1) (.slice a j c) (rdOs j sM).1 ∧ Rs wr rb (rdOs j sM).2 ∧ CmB wr w.heap.size (.slice none 0 0) Cm.zero ∧ Below w.heap.size w wr ∧ cb + 1 ≤ wr.heap.size) (fun iv _ => N - (intOf iv).toNat)
  case atStart => exact ⟨0, none, 0, Nat.zero_le _, rfl, K8, ORow.nil _ _, R8, N8, b8, l8⟩
  case round =>
    obtain ⟨j, a, cap, hj, rfl, hK, hO, hR, hN, hb, hlo⟩ := hrel
    clear K8 R8 N8 b8 l8
    by_cases hlt : j < N
    · have t2 : IntKind.i64.wrap ((j : Int) + 1) = (j : Int) + 1 := IntWalk.i64_in _ (by omega)
      have HON := Lib.hid (rdOs_len j sM)
      have hlt2 : decide ((j : Int) < (N : Int)) = true := by simp; omega
      have HSN : Hid ((rdOs (j + 1) sM).1 = (rdOs j sM).1 ++ [(rdO (rdOs j sM).2).1] ∧ (rdOs (j + 1) sM).2 = (rdO (rdOs j sM).2).2) := Lib.hid ⟨rfl, rfl⟩
      obtain ⟨L, hL⟩ : ∃ L, L = (rdOs j sM).1 := ⟨_, rfl⟩
      obtain ⟨st, hst⟩ : ∃ st, st = (rdOs j sM).2 := ⟨_, rfl⟩
      rw [← hL] at hK hO HON HSN
      rw [← hst] at hR HSN
      have HK0 := Lib.hid hK
      have HO0 := Lib.hid hO
      have HR0 := Lib.hid hR
      have HN0 := Lib.hid hN
      have HB0 := Lib.hid hb
      have HRO := Lib.hid (fun (W : World) (hW : Rs W rb st) => readop_any rb st W hW)
      clear hL hst hK hO hR hN hb
      go_upto_region 5 with fail
      refine wp_region_inv_last 7 (IFJ (FRd cb rb (.slice a j cap) (rdO st).1) (JRd (cb + 1) w.heap.size rb cb w (.slice a j cap) ⟨vA, vB, vC, vD, L, ⟨#[]⟩, false, false⟩ st)) (by kernel_rfl) (by kernel_rfl) (by kernel_rfl) (by kernel_rfl) (by kernel_rfl) ?_ ?_ ?_
      · intro z
        exact ⟨fun k hk => (by cases hk), ⟨HB0.out.drew, HN0.out, HK0.out, HR0.out.below ((Below.refl _ wr).drew), hlo, fun _ => HO0.out.below ((Below.refl _ wr).drew), fun hk => (by cases hk), fun hk => (by cases hk), fun hk => (by cases hk), fun hk => (by cases hk)⟩⟩
      · intro i o hi ho b z w1 hI hbi hW
        match i, ho with
        | 0, ho =>
          obtain rfl := Option.some.inj ho
          exact gstep_field rfl (wanted0 rfl) _ _ _ rfl _ (eval_of 5 _ (by kernel_rfl) rfl) _ (run_fC4 w1 _) ⟨_, rfl, IFJ.step hI rfl (hI.2.pure (by decide))⟩
        | 1, ho =>
          obtain rfl := Option.some.inj ho
          exact gstep_load rfl (wanted0 rfl) _ _ rfl _ (eval_at 21 0 _ (by kernel_rfl) (show 21 < 53 by decide) (hI.1 0 (hW 0 (by kernel_rfl)))) _ (run_loadOps w1 _ _ _ _ hI.2.box.cells.1.2.2.2.2.1) ⟨_, rfl, IFJ.step hI rfl (hI.2.pure (by decide))⟩
        | 2, ho =>
          obtain rfl := Option.some.inj ho
          exact gstep_move rfl (wanted0 rfl) _ rfl _ (eval_of 4 _ (by kernel_rfl) rfl) ⟨_, rfl, IFJ.step hI rfl (hI.2.pure (by decide))⟩
        | 3, ho =>
          obtain rfl := Option.some.inj ho
          refine gstep_call rfl (wanted0 rfl) _ _ _ rfl _ (eval_at 23 2 _ (by kernel_rfl) (show 23 < 53 by decide) (hI.1 2 (hW 2 (by kernel_rfl)))) (call_rdop w1 _) ?_
          refine (HRO.out w1 (by have := hI.2.rd; rw [hbi] at this; exact this)).mono ?_
          rintro e w2 ⟨rfl, hr, hg⟩
          exact ⟨_, rfl, _, rfl, IFJ.step hI rfl (hI.2.s3 hbi hd hr hg)⟩
        | 4, ho =>
          obtain rfl := Option.some.inj ho
          exact gstep_row1 rfl (wanted0 rfl) _ _ rfl _ (eval_at 24 3 _ (by kernel_rfl) (show 24 < 53 by decide) (hI.1 3 (hW 3 (by kernel_rfl)))) _ _ (run_rowO w1 _) ⟨_, rfl, IFJ.step hI trivial (hI.2.s4 (hW 3 (by kernel_rfl)) hbi)⟩
        | 5, ho =>
          obtain rfl := Option.some.inj ho
          obtain ⟨i1, hi1, hz1, hz2, hz3⟩ := info_parts info_op
          have hb4 : b 4 = true := hW 4 (by kernel_rfl)
          obtain ⟨g1, hx4, hg1⟩ := hI.2.r4 hb4 hbi
          have hrow := hI.2.row hbi
          refine gstep_append rfl (wanted0 rfl) _ _ _ rfl (cb + 1) 50 i1 _ 6 56 und_ops hi1 hz1 hz2 hz3 rfl (by decide) _ L.length (cellsK opOne L) (eval_at 22 1 _ (by kernel_rfl) (show 22 < 53 by decide) (hI.1 1 (hW 1 (by kernel_rfl)))) hrow ⟨g1, 0, none⟩ 1 1 (cellsK opOne [(rdO st).1]) (eval_at 25 4 _ (by kernel_rfl) (show 25 < 53 by decide) hx4) rfl (fun q u hq => by
            obtain ⟨c0, c1, c2, c3, c4, c5⟩ := hg1.cells.1
            match q, hq with
            | 0, hq => cases hq; exact c0
            | 1, hq => cases hq; exact c1
            | 2, hq => cases hq; exact c2
            | 3, hq => cases hq; exact c3
            | 4, hq => cases hq; exact c4
            | 5, hq => cases hq; exact c5) (cellsK_one opOne_one _) (by have := HON.out; unfold maxLen; omega) (by have := HON.out; omega) hI.2.low ?_
          intro v' w' ho hg
          exact ⟨_, rfl, IFJ.step hI trivial (hI.2.s5 hb4 hbi ⟨hd.1, hd.2.1, hd.2.2.1, by omega⟩ ho hg)⟩
        | 6, ho =>
          obtain rfl := Option.some.inj ho
          exact gstep_field rfl (wanted0 rfl) _ _ _ rfl _ (eval_of 5 _ (by kernel_rfl) rfl) _ (run_fC4 w1 _) ⟨_, rfl, IFJ.step hI rfl (hI.2.pure (by decide))⟩
        | n + 7, ho => omega
      · intro o ho b z w9 hI hA
        obtain rfl := Option.some.inj ho
        have hF6 : z 6 = .pointer (some ⟨cb, 4, none⟩) := hI.1 6 (hA 6 (by decide))
        have hrow := hI.2.r5 (hA 5 (by decide))
        obtain ⟨a9, c9, hx5, _⟩ := hrow.form
        rw [show (Cm.ops ⟨vA, vB, vC, vD, L, ⟨#[]⟩, false, false⟩ ++ [(rdO st).1]).length = j + 1 by rw [List.length_append]; show L.length + 1 = _; rw [HON.out]] at hx5
        rw [hx5] at hrow
        have hcell := hI.2.box.cells.1.2.2.2.2.1
        have hfrz := hI.2.box.cells.2.2.2.2.2.1
        have hrd := hI.2.rd
        rw [hA 3 (by decide)] at hrd
        have HK9 := Lib.hid (hI.2.box.put4 (v := .slice a9 (j + 1) c9) (L ++ [(rdO st).1]))
        have HO9 : Hid (ORow (w9.setCell ⟨cb, 4, none⟩ (.slice a9 (j + 1) c9)) (cb + 1) (.slice a9 (j + 1) c9) (L ++ [(rdO st).1])) := Lib.hid (hrow.set hd.2.2.1)
        have HR9 : Hid (Rs (w9.setCell ⟨cb, 4, none⟩ (.slice a9 (j + 1) c9)) rb (rdO st).2) := Lib.hid (Rs.set hrd hd.2.2.2.2.1.symm)
        have HN9 := Lib.hid (hI.2.res.set (i := 4) (u := .slice a9 (j + 1) c9) hcw.1)
        have HB9 := Lib.hid (hI.2.bel.setCell (p := ⟨cb, 4, none⟩) hcw.2.1 (.slice a9 (j + 1) c9))
        have HL9 : Hid (cb + 1 ≤ (w9.setCell ⟨cb, 4, none⟩ (.slice a9 (j + 1) c9)).heap.size) := Lib.hid (by have := hI.2.low; simpa [World.setCell] using this)
        refine gstep_store rfl (wanted0 rfl) _ _ _ rfl _ _ (eval_at 27 6 _ (by kernel_rfl) (show 27 < 53 by decide) hF6) (eval_at 26 5 _ (by kernel_rfl) (show 26 < 53 by decide) hx5) _ (run_storeOps w9 _ _ _ _ _ hcell hfrz) ?_
        simp only [putAll, Act.put, List.setIfInBounds_toArray, List.set_cons_succ, List.set_cons_zero]
        clear hI hA hrow hx5 hcell hfrz hF6 hrd
        obtain ⟨w10, hw10⟩ : ∃ w10, w10 = w9.setCell ⟨cb, 4, none⟩ (.slice a9 (j + 1) c9) := ⟨_, rfl⟩
        rw [← hw10] at HK9 HO9 HR9 HN9 HB9 HL9 ⊢
        clear hw10
        go_wp2_with fail
        go_roundw
        case rel => exact ⟨j + 1, a9, c9, by omega, by go_num, by rw [HSN.out.1]; exact HK9.out, by rw [HSN.out.1]; exact HO9.out, by rw [HSN.out.2]; exact HR9.out, HN9.out, HB9.out, HL9.out⟩
        case measure => simp [intOf]; omega
    · obtain rfl : j = N := by omega
      have hlt2 : decide ((j : Int) < (j : Int)) = false := by simp
      rw [HNT.out] at HT HEC
      have HC1 := Lib.hid (text_rs rb 60 _ wr hR)
      rw [← HT.out] at HC1
      have HC2 := Lib.hid (fun (W : World) (hW : Rs W rb T.2) => flag_rs rb _ W hW)
      have HC3 := Lib.hid (fun (W : World) (hW : Rs W rb X.2) => flag_rs rb _ W hW)
      rw [← HX.out] at HC2
      rw [← HZ.out] at HC3
      have HOK := Lib.hid (rdOs_ok j sM)
      have HON := Lib.hid (rdOs_len j sM)
      obtain ⟨L, hL⟩ : ∃ L, L = (rdOs j sM).1 := ⟨_, rfl⟩
      rw [← hL] at hK hO HEC HOK HON
      obtain ⟨vT, sT⟩ := T
      obtain ⟨vX, sX⟩ := X
      obtain ⟨vZ, sZ⟩ := Z
      simp only at HC1 HC2 HC3 HRK HEC qT
      obtain ⟨tp, htp⟩ : ∃ tp : ByteArray, tp = ⟨vT.toArray⟩ := ⟨_, rfl⟩
      rw [← htp] at HC1 HEC qT
      have HK0 := Lib.hid hK
      have HO0 := Lib.hid hO
      have HN0 := Lib.hid hN
      have HB0 := Lib.hid hb
      clear htp hL hK hO hR hN hb HT HX HZ HNT HNM hlt
      go_wp2_with fail
      refine HC1.out.mono ?_
      rintro e w3 ⟨rfl, R3, g3⟩
      have K3 := HK0.out.kept g3 (fun e => hd.2.2.2.2.1 (Option.some.inj e))
      have O3 := HO0.out.kept g3 hd.2.1
      have N3 := HN0.out.kept g3 (fun e => hd.2.2.2.1 (Option.some.inj e))
      have B3 := HB0.out.grown g3 HB0.out.size (fun q hq => by have := Option.some.inj hq; omega)
      obtain ⟨⟨_, _, _, _, _, c5, _, _⟩, _, _, _, _, _, f5, _, _⟩ := K3.cells
      have HK0 := Lib.hid (K3.put5 tp)
      have HO0 : Hid (ORow (w3.setCell ⟨cb, 5, none⟩ (.string tp)) (cb + 1) (.slice a j cap) L) := Lib.hid (O3.set hd.2.2.1)
      have HR0 : Hid (Rs (w3.setCell ⟨cb, 5, none⟩ (.string tp)) rb sT) := Lib.hid (Rs.set R3 hd.2.2.2.2.1.symm)
      have HN0 := Lib.hid (N3.set (i := 5) (u := .string tp) hcw.1)
      have HB0 := Lib.hid (B3.setCell (p := ⟨cb, 5, none⟩) hcw.2.1 (.string tp))
      clear K3 O3 N3 B3 R3 g3 HC1
      go_upto_region 8 with fail
      obtain ⟨w4, hw4⟩ : ∃ w4, w4 = w3.setCell ⟨cb, 5, none⟩ (.string tp) := ⟨_, rfl⟩
      rw [← hw4] at HK0 HO0 HR0 HN0 HB0 ⊢
      clear hw4 c5 f5
      go_wp2_with fail
      refine (HC2.out _ HR0.out).mono ?_
      rintro e w5 ⟨rfl, R3, g3⟩
      have K3 := HK0.out.kept g3 (fun e => hd.2.2.2.2.1 (Option.some.inj e))
      have O3 := HO0.out.kept g3 hd.2.1
      have N3 := HN0.out.kept g3 (fun e => hd.2.2.2.1 (Option.some.inj e))
      have B3 := HB0.out.grown g3 HB0.out.size (fun q hq => by have := Option.some.inj hq; omega)
      obtain ⟨⟨_, _, _, _, _, _, c6, _⟩, _, _, _, _, _, _, f6, _⟩ := K3.cells
      have HK0 := Lib.hid (K3.put6 vX)
      have HO0 : Hid (ORow (w5.setCell ⟨cb, 6, none⟩ (.bool vX)) (cb + 1) (.slice a j cap) L) := Lib.hid (O3.set hd.2.2.1)
      have HR0 : Hid (Rs (w5.setCell ⟨cb, 6, none⟩ (.bool vX)) rb sX) := Lib.hid (Rs.set R3 hd.2.2.2.2.1.symm)
      have HN0 := Lib.hid (N3.set (i := 6) (u := .bool vX) hcw.1)
      have HB0 := Lib.hid (B3.setCell (p := ⟨cb, 6, none⟩) hcw.2.1 (.bool vX))
      clear K3 O3 N3 B3 R3 g3 HC2
      go_upto_region 9 with fail
      obtain ⟨w6, hw6⟩ : ∃ w6, w6 = w5.setCell ⟨cb, 6, none⟩ (.bool vX) := ⟨_, rfl⟩
      rw [← hw6] at HK0 HO0 HR0 HN0 HB0 ⊢
      clear hw6 c6 f6
      go_wp2_with fail
      refine (HC3.out _ HR0.out).mono ?_
      rintro e w7 ⟨rfl, R3, g3⟩
      have K3 := HK0.out.kept g3 (fun e => hd.2.2.2.2.1 (Option.some.inj e))
      have O3 := HO0.out.kept g3 hd.2.1
      have N3 := HN0.out.kept g3 (fun e => hd.2.2.2.1 (Option.some.inj e))
      have B3 := HB0.out.grown g3 HB0.out.size (fun q hq => by have := Option.some.inj hq; omega)
      obtain ⟨⟨_, _, _, _, _, _, _, c7⟩, _, _, _, _, _, _, _, f7⟩ := K3.cells
      have K8 := K3.put7 vZ
      have O8 : ORow (w7.setCell ⟨cb, 7, none⟩ (.bool vZ)) (cb + 1) (.slice a j cap) L := O3.set hd.2.2.1
      have R8 : Rs (w7.setCell ⟨cb, 7, none⟩ (.bool vZ)) rb sZ := Rs.set R3 hd.2.2.2.2.1.symm
      have N8 := N3.set (i := 7) (u := .bool vZ) hcw.1
      have B8 := B3.setCell (p := ⟨cb, 7, none⟩) hcw.2.1 (.bool vZ)
      clear K3 O3 N3 B3 R3 g3 HC3 HK0 HO0 HR0 HN0 HB0
      go_upto_region 10 with fail
      obtain ⟨w8, hw8⟩ : ∃ w8, w8 = w7.setCell ⟨cb, 7, none⟩ (.bool vZ) := ⟨_, rfl⟩
      rw [← hw8] at K8 O8 R8 N8 B8 ⊢
      have K8 : CmB w8 cb (.slice a j cap) cR := by rw [HEC.out]; exact K8
      clear hw8 c7 f7
      have hcRk : cR.kind = vA ∧ cR.ses = vB ∧ cR.req = vC ∧ cR.noted = vD ∧ cR.ops = L ∧ cR.path = tp ∧ cR.kids = vX ∧ cR.once = vZ := by rw [HEC.out]; exact ⟨rfl, rfl, rfl, rfl, rfl, rfl, rfl, rfl⟩
      have hOk : cR.Ok := by
        obtain ⟨e1, e2, e3, e4, e5, e6, _⟩ := hcRk
        exact ⟨by unfold InR; rw [e1]; omega, by unfold InR; rw [e2]; omega, by unfold InR; rw [e3]; omega, by unfold InR; rw [e4]; omega, by rw [e6]; unfold maxLen; omega⟩
      have HRC := Lib.hid (rightcm_any (.slice a j cap) cR w8 ⟨hOk, _, rfl, by rw [hcRk.2.2.2.2.1]; exact O8.opsR (by rw [HON.out]; unfold maxLen; omega) HOK.out⟩)
      have HDN := Lib.hid (done_rs rb sZ w8 R8)
      have hd2 : doneF sZ = 0 ∨ doneF sZ = 2 := by unfold doneF; split <;> simp
      obtain ⟨⟨c0, c1, c2, c3, c4, c5, c6, c7⟩, _⟩ := K8.cells
      obtain ⟨⟨x0, x1, x2, x3, x4, x5, x6, x7⟩, y0, y1, y2, y3, y4, y5, y6, y7⟩ := N8.cells
      have HK8 := Lib.hid K8
      have HO8 := Lib.hid O8
      have HN8 := Lib.hid N8
      have HLR := Lib.hid hcRk.2.2.2.2.1
      have ZZ := N8.set8 (v := .slice none 0 0) Cm.zero
      have bz := below8 B8 (Nat.le_refl _) (.int .i64 0) (.int .i64 0) (.int .i64 0) (.int .i64 0) (.slice none 0 0) (.string ⟨#[]⟩) (.bool false) (.bool false)
      simp only [Cm.zero] at x0 x1 x2 x3 x5 x6 x7 ZZ
      have HZZ := Lib.hid ZZ
      have HBZ := Lib.hid bz
      have hlz : decide ((488 : Int) < (s.size : Int)) = decide (488 < s.size) := by by_cases h : 488 < s.size <;> simp [h] <;> omega
      unfold cmV at HRC
      clear K8 O8 R8 N8 hcRk hOk ZZ bz
      obtain ⟨cr, hcr⟩ : ∃ cr, cr = rightC cR := ⟨_, rfl⟩
      rw [← hcr] at HRC HRK
      clear hcr
      rcases hd2 with hdz | hdz
      · rw [hdz] at HDN HRK
        cases cr with
        | false =>
          have HY2 : Hid (Y = (Cm.zero, 2)) := Lib.hid (by rw [HRK.out, if_neg (by simp)])
          clear x0 x1 x2 x3 x4 x5 x6 x7 y0 y1 y2 y3 y4 y5 y6 y7 HZZ HBZ
          go_wp2_with fail
          refine HDN.out.mono ?_
          rintro e w9 ⟨rfl, rfl⟩
          go_wp2_with fail
          refine HRC.out.mono ?_
          rintro e w10 ⟨rfl, b10⟩
          have N10 := HN8.out.below b10
          have K10 := HK8.out.below b10
          have O10 := HO8.out.below b10
          have B10 := B8.trans (b10.mono B8.size)
          obtain ⟨⟨x0, x1, x2, x3, x4, x5, x6, x7⟩, y0, y1, y2, y3, y4, y5, y6, y7⟩ := N10.cells
          have HZZ := Lib.hid (N10.set8 (v := .slice none 0 0) Cm.zero)
          have HBZ := Lib.hid (below8 B10 (Nat.le_refl _) (.int .i64 0) (.int .i64 0) (.int .i64 0) (.int .i64 0) (.slice none 0 0) (.string ⟨#[]⟩) (.bool false) (.bool false))
          clear N10 K10 O10 B10 b10 c0 c1 c2 c3 c4 c5 c6 c7
          go_wp2_with fail
          refine bodyPost_ret (oread_results _ _ w.heap.size (.slice none 0 0) Cm.zero 2 rfl rfl HZZ.out) rfl ⟨.slice none 0 0, by rw [HY2.out], by rw [HY2.out]; exact ORow.nil _ _, HBZ.out⟩
        | true =>
          by_cases h488 : 488 < s.size
          · have HY2 : Hid (Y = (Cm.zero, 2)) := Lib.hid (by rw [HRK.out, if_neg (by rw [hls]; omega)])
            have hd4 : decide ((488 : Int) < (s.size : Int)) = true := by simp; omega
            clear x0 x1 x2 x3 x4 x5 x6 x7 y0 y1 y2 y3 y4 y5 y6 y7 HZZ HBZ
            go_wp2_with fail
            refine HDN.out.mono ?_
            rintro e w9 ⟨rfl, rfl⟩
            go_wp2_with fail
            refine HRC.out.mono ?_
            rintro e w10 ⟨rfl, b10⟩
            have N10 := HN8.out.below b10
            have K10 := HK8.out.below b10
            have O10 := HO8.out.below b10
            have B10 := B8.trans (b10.mono B8.size)
            obtain ⟨⟨x0, x1, x2, x3, x4, x5, x6, x7⟩, y0, y1, y2, y3, y4, y5, y6, y7⟩ := N10.cells
            have HZZ := Lib.hid (N10.set8 (v := .slice none 0 0) Cm.zero)
            have HBZ := Lib.hid (below8 B10 (Nat.le_refl _) (.int .i64 0) (.int .i64 0) (.int .i64 0) (.int .i64 0) (.slice none 0 0) (.string ⟨#[]⟩) (.bool false) (.bool false))
            clear N10 K10 O10 B10 b10 c0 c1 c2 c3 c4 c5 c6 c7
            go_wp2_with fail
            refine bodyPost_ret (oread_results _ _ w.heap.size (.slice none 0 0) Cm.zero 2 rfl rfl HZZ.out) rfl ⟨.slice none 0 0, by rw [HY2.out], by rw [HY2.out]; exact ORow.nil _ _, HBZ.out⟩
          · have HY2 : Hid (Y = (cR, 0)) := Lib.hid (by rw [HRK.out, if_pos ⟨rfl, rfl, by rw [hls]; omega⟩])
            have hd4 : decide ((488 : Int) < (s.size : Int)) = false := by simp; omega
            have hwc : w.heap.size < cb + 1 := hd.1
            clear x0 x1 x2 x3 x4 x5 x6 x7 y0 y1 y2 y3 y4 y5 y6 y7 HZZ HBZ
            go_wp2_with fail
            refine HDN.out.mono ?_
            rintro e w9 ⟨rfl, rfl⟩
            go_wp2_with fail
            refine HRC.out.mono ?_
            rintro e w10 ⟨rfl, b10⟩
            have N10 := HN8.out.below b10
            have K10 := HK8.out.below b10
            have O10 := HO8.out.below b10
            have B10 := B8.trans (b10.mono B8.size)
            obtain ⟨⟨x0, x1, x2, x3, x4, x5, x6, x7⟩, y0, y1, y2, y3, y4, y5, y6, y7⟩ := N10.cells
            clear c0 c1 c2 c3 c4 c5 c6 c7
            obtain ⟨⟨c0, c1, c2, c3, c4, c5, c6, c7⟩, _⟩ := K10.cells
            have HZZ := Lib.hid (N10.set8 (v := .slice a j cap) cR)
            have HBZ := Lib.hid (below8 B10 (Nat.le_refl _) (.int .i64 cR.kind) (.int .i64 cR.ses) (.int .i64 cR.req) (.int .i64 cR.noted) (.slice a j cap) (.string cR.path) (.bool cR.kids) (.bool cR.once))
            have HO10 := Lib.hid O10
            clear N10 K10 O10 B10 b10
            go_wp2_with fail
            refine bodyPost_ret (oread_results _ _ w.heap.size (.slice a j cap) cR 0 rfl rfl HZZ.out) rfl ⟨.slice a j cap, by rw [HY2.out], by rw [HY2.out, HLR.out]; exact ((((((((HO10.out.set hwc).set hwc).set hwc).set hwc).set hwc).set hwc).set hwc).set hwc).less (Nat.le_succ_of_le hcw.2.1), HBZ.out⟩
      · rw [hdz] at HDN HRK
        have HY2 : Hid (Y = (Cm.zero, 2)) := Lib.hid (by rw [HRK.out, if_neg (by omega)])
        go_wp2_with fail
        refine HDN.out.mono ?_
        rintro e w9 ⟨rfl, rfl⟩
        go_wp2_with fail
        refine bodyPost_ret (oread_results _ _ w.heap.size (.slice none 0 0) Cm.zero 2 rfl rfl HZZ.out) rfl ⟨.slice none 0 0, by rw [HY2.out], by rw [HY2.out]; exact ORow.nil _ _, HBZ.out⟩
end Go.Proofs.Ytkdbkbfloiponaa
