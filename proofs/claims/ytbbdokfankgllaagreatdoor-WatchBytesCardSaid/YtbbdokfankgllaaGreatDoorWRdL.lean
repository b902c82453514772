/- readLast: the last numbers from the reader. No conditions beyond those in each statement. -/
import Derived.Test.YtbbdokfankgllaaGreatDoorWRdM
namespace Go.Proofs.YtbbdokfankgllaaGreatDoor
open Go.RowKit Go.Maps
set_option linter.unusedVariables false
set_option linter.unusedSimpArgs false
set_option maxRecDepth 100000

theorem numS_rs (rb : Nat) (s : RS) (W : World) (hW : Rs W rb s) : Calls Tryz.prog 59 #[.pointer (some ⟨rb, 0, none⟩), .int .i64 281474976710655] W fun e w' => e = .returned (.int .i64 (numS s).1) ∧ Rs w' rb (numS s).2 ∧ W.grownBy w' (some rb) := by
  have := num_rs rb 281474976710655 s W hW
  rw [show max (281474976710655 : Int) 0 = 281474976710655 by decide] at this
  exact this
set_option maxHeartbeats 8000000 in
theorem rlast_any (base bb rb : Nat) (vw ve : Value) (Ws : List Wa) (Es : List Ev) (st : RS) (w : World) (h : BkW w base bb vw ve (.map none) Ws Es 0 0 (fun _ => none)) (hr : Rs w rb st) (hrb : rb < base) :
    Calls Tryz.prog 34 #[.pointer (some ⟨bb, 0, none⟩), .pointer (some ⟨rb, 0, none⟩)] w fun e w' => e = .returned (.tuple #[]) ∧ ∃ vm k c, BkW w' base bb vw ve vm Ws Es k c (readLs st).N ∧ Rs w' rb (readLs st).st ∧ LowR base rb w w' ∧ k ≤ 1024 := by
  have hlo := h.lo.2
  obtain ⟨n, s0, hn⟩ : ∃ a b, numF 6 1024 st = (a, b) := ⟨_, _, rfl⟩
  have hnb := numF_most st 1024 (by decide)
  rw [hn] at hnb
  simp only at hnb
  obtain ⟨m, rfl⟩ := Int.eq_ofNat_of_zero_le hnb.1
  have hm : m ≤ 1024 := by omega
  have HEND : Hid (readLs st = rdLs m (fun _ => none) [] s0) := Lib.hid (by unfold readLs; rw [hn]; rfl)
  have HNM := Lib.hid (num_rs rb 1024 st w hr)
  rw [show max (1024 : Int) 0 = 1024 by decide, hn] at HNM
  have HH := Lib.hid h
  clear hn hnb h hr
  go_enter Tryz.func34, Tryz.ntmps34
  go_wp2_with fail
  refine HNM.out.mono ?_
  rintro e w2 ⟨rfl, R2, g2⟩
  have H2 := Lib.hid (HH.out.reader g2 hrb)
  have HR2 := Lib.hid R2
  have HG2 := Lib.hid ((LowR.refl base rb w).grown g2 hlo)
  clear R2 g2 HH HNM
  go_wp2_with fail
  go_loopw [4, 9] (fun lv iv wr => ∃ (j : Nat) (vm : Value) (c : Nat) (N : Int → Option Int) (L : List (Int × Int)) (S : RS), j ≤ m ∧ iv = .int .i64 j ∧ lv = .int .i64 (lastZ L) ∧ Hid (BkW wr base bb vw ve vm Ws Es j c N) ∧ Hid (Rs wr rb S) ∧ Hid (LsOk N L) ∧ Hid (readLs st = rdLs (m - j) N L S) ∧ Hid (LowR base rb w wr)) (fun _ iv _ => m - (intOf iv).toNat)
  case atStart => exact ⟨0, _, 0, _, [], s0, by omega, rfl, rfl, H2, HR2, Lib.hid LsOk.nil, HEND, HG2⟩
  case round =>
    obtain ⟨j, vm, c, N, L, S, hj, rfl, rfl, HB, HR, HO, HEQ, HG⟩ := hrel
    clear H2 HR2 HG2 HEND
    by_cases hlt : j < m
    · have hlt2 : decide ((j : Int) < (m : Int)) = true := by simp; omega
      have t2 : IntKind.i64.wrap ((j : Int) + 1) = (j : Int) + 1 := IntWalk.i64_in _ (by omega)
      obtain ⟨q, hq⟩ : ∃ q, m - j = q + 1 := ⟨m - j - 1, by omega⟩
      rw [hq] at HEQ
      have HNA := Lib.hid (numS_rs rb S wr HR.out)
      have hb1 := numS_bd S
      have hb2 := numS_bd (numS S).2
      have HGD := Lib.hid (@rdLs_good q N L S)
      have HBD := Lib.hid (@rdLs_bad q N L S)
      obtain ⟨a, S1, ha⟩ : ∃ a b, numS S = (a, b) := ⟨_, _, rfl⟩
      rw [ha] at HNA hb1 hb2 HGD HBD
      obtain ⟨b, S2, hb⟩ : ∃ a b, numS S1 = (a, b) := ⟨_, _, rfl⟩
      simp only at HNA hb1 hb2 HGD HBD
      rw [hb] at hb2 HGD
      simp only at hb2 HGD
      have HNB : Hid (∀ W : World, Rs W rb S1 → Calls Tryz.prog 59 #[.pointer (some ⟨rb, 0, none⟩), .int .i64 281474976710655] W fun e w' => e = .returned (.int .i64 b) ∧ Rs w' rb S2 ∧ W.grownBy w' (some rb)) := Lib.hid (fun W hW => by have := numS_rs rb S1 W hW; rw [hb] at this; exact this)
      have HB1 := Lib.hid hb1
      have HB2 := Lib.hid hb2
      obtain ⟨lz, hlz⟩ : ∃ lz, lz = lastZ L := ⟨_, rfl⟩
      rw [← hlz] at HGD HBD ⊢
      have HLZ := Lib.hid hlz
      clear ha hb hb1 hb2 hlz
      go_wp2_with fail
      refine HNA.out.mono ?_
      rintro e w3 ⟨rfl, R3, g3⟩
      have K3 := HB.out.reader g3 hrb
      have G3 := HG.out.grown g3 hlo
      clear g3 HNA HB HG HR
      go_wp2_with fail
      refine (HNB.out _ R3).mono ?_
      rintro e w4 ⟨rfl, R4, g4⟩
      have K4 := K3.reader g4 hrb
      have G4 := G3.grown g4 hlo
      clear g4 HNB R3 K3 G3
      by_cases hle : a ≤ lz
      · have hle2 : decide (a ≤ lz) = true := by simpa using hle
        have HE := Lib.hid (HEQ.out.trans (HBD.out hle))
        clear HGD HBD hle
        go_wp2_with fail
        refine (fail_rs rb _ _ R4).mono ?_
        rintro e w5 ⟨rfl, R5, g5⟩
        have K5 := Lib.hid (K4.reader g5 hrb)
        have G5 := Lib.hid (G4.grown g5 hlo)
        clear K4 G4 R4 g5
        go_wp2_with fail
        refine bodyPost_ret (results_none (by kernel_rfl) _ _ _) rfl ?_
        rw [HE.out]
        exact ⟨rfl, vm, j, c, K5.out, R5, G5.out, by omega⟩
      · have hle2 : decide (a ≤ lz) = false := by simpa using hle
        have HE := Lib.hid (HEQ.out.trans (HGD.out (by omega)))
        have HO2 := Lib.hid (HO.out.step (x := a) (v := b) (by rw [← HLZ.out]; exact hle) HB1.out.2 HB2.out)
        have HSL := Lib.hid (setl_any base bb vw ve vm Ws Es j c N a b w4 K4 ⟨by have := HB1.out; omega, by have := HB1.out; omega⟩ (by omega))
        have HLO := Lib.hid K4.lo.2
        have R4h := Lib.hid R4
        have G4h := Lib.hid G4
        clear HGD HBD hle HO R4 K4 G4
        go_wp2_with fail
        refine HSL.out.mono ?_
        rintro e w5 ⟨rfl, vm', c', K5, b5, _⟩
        have R5 := Lib.hid (R4h.out.lowB b5 hrb)
        have G5 := Lib.hid (G4h.out.low b5)
        have K5h := Lib.hid K5
        clear K5 b5 HSL
        go_wp2_with fail
        go_roundw
        case rel => exact ⟨j + 1, vm', c', updN N a (some b), L ++ [(a, b)], S2, by omega, by go_num, by rw [lastZ_snoc], K5h, R5, HO2, Lib.hid (by rw [HE.out, show m - (j + 1) = q by omega]), G5⟩
        case measure => simp [intOf]; omega
    · obtain rfl : j = m := by omega
      have hlt2 : decide ((j : Int) < (j : Int)) = false := by simp
      rw [Nat.sub_self] at HEQ
      have HEQ : Hid (readLs st = ⟨N, L, S⟩) := HEQ
      go_wp2_with fail
      go_end0
      rw [HEQ.out]
      exact ⟨rfl, vm, j, c, HB.out, HR.out, HG.out, hm⟩
end Go.Proofs.YtbbdokfankgllaaGreatDoor
