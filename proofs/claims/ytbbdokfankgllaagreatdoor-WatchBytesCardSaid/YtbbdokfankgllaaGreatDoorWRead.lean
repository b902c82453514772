/- Read of a book. No conditions beyond those in each statement. -/
import Derived.Test.YtbbdokfankgllaaGreatDoorWRdE
import Derived.Test.YtbbdokfankgllaaGreatDoorWRdW
namespace Go.Proofs.YtbbdokfankgllaaGreatDoor
open Go.RowKit Go.Maps
set_option linter.unusedVariables false
set_option linter.unusedSimpArgs false
set_option maxRecDepth 100000

/-- A book that is read. -/
structure Bks where
  W : List Wa
  E : List Ev
  N : Int → Option Int
  L : List (Int × Int)
  st : RS
def readB (st : RS) : Bks :=
  let a := readWs st
  let b := readEs a.st
  let c := readLs b.st
  if okF c.st then ⟨a.L, b.L, c.N, c.L, c.st⟩ else ⟨[], [], fun _ => none, [], c.st⟩
def layB (W : List Wa) (E : List Ev) (L : List (Int × Int)) : List UInt8 := numE (W.length : Int) ++ (W.flatMap waE ++ (numE (E.length : Int) ++ (E.flatMap evE ++ (numE (L.length : Int) ++ lsE L))))
theorem readB_ok {st : RS} (h : okF (readB st).st = true) : readB st = ⟨(readWs st).L, (readEs (readWs st).st).L, (readLs (readEs (readWs st).st).st).N, (readLs (readEs (readWs st).st).st).L, (readLs (readEs (readWs st).st).st).st⟩ ∧ okF (readLs (readEs (readWs st).st).st).st = true := by
  unfold readB at h ⊢
  simp only at h ⊢
  by_cases hc : okF (readLs (readEs (readWs st).st).st).st = true
  · rw [if_pos hc]; exact ⟨rfl, hc⟩
  · rw [if_neg hc] at h; exact absurd h hc
theorem readB_bad {st : RS} (h : okF (readLs (readEs (readWs st).st).st).st = false) : readB st = ⟨[], [], fun _ => none, [], (readLs (readEs (readWs st).st).st).st⟩ := by
  unfold readB
  simp only
  rw [if_neg (by rw [h]; decide)]
theorem readB_good {st : RS} (h : okF (readLs (readEs (readWs st).st).st).st = true) : readB st = ⟨(readWs st).L, (readEs (readWs st).st).L, (readLs (readEs (readWs st).st).st).N, (readLs (readEs (readWs st).st).st).L, (readLs (readEs (readWs st).st).st).st⟩ := by
  unfold readB
  simp only
  rw [if_pos h]
structure BksOk (b : Bks) : Prop where
  ws : WsOk b.W
  es : ∀ e ∈ b.E, EvOk e
  ls : LsOk b.N b.L
  lw : b.W.length ≤ 40
  le : b.E.length ≤ 1024
  ll : b.L.length ≤ 1024
/-- What was read is what was there. -/
theorem readB_some {st : RS} {l' : List UInt8} (h : (readB st).st = some l') : ∃ l, st = some l ∧ l = layB (readB st).W (readB st).E (readB st).L ++ l' ∧ BksOk (readB st) := by
  have hok : okF (readB st).st = true := by rw [h]; rfl
  obtain ⟨e1, _⟩ := readB_ok hok
  rw [e1] at h ⊢
  simp only at h ⊢
  obtain ⟨Y, hY⟩ : ∃ Y, Y = (readWs st).st := ⟨_, rfl⟩
  rw [← hY] at h ⊢
  obtain ⟨X, hX⟩ : ∃ X, X = (readEs Y).st := ⟨_, rfl⟩
  rw [← hX] at h ⊢
  obtain ⟨l3, M3, a3, b3, c3, d3, f3⟩ := rdLs_some (numF 6 1024 X).1.toNat (fun _ => none) [] (numF 6 1024 X).2 l' LsOk.nil h
  have b3' : (readLs X).L = M3 := b3
  have f3' : LsOk (readLs X).N (readLs X).L := f3
  obtain ⟨m3, g3, k3, p3, q3⟩ := numF_some (by decide) a3
  rw [hX] at g3
  obtain ⟨l2, M2, a2, b2, c2, d2, f2⟩ := rdEs_some (numF 6 1024 Y).1.toNat [] (numF 6 1024 Y).2 m3 g3
  have b2' : (readEs Y).L = M2 := b2
  obtain ⟨m2, g2, k2, p2, q2⟩ := numF_some (by decide) a2
  rw [hY] at g2
  obtain ⟨l1, M1, a1, b1, c1, d1, f1⟩ := rdWs_some (numF 6 40 st).1.toNat [] (numF 6 40 st).2 m2 WsOk.nil g2
  have b1' : (readWs st).L = M1 := b1
  have f1' : WsOk (readWs st).L := f1
  obtain ⟨m1, g1, k1, p1, q1⟩ := numF_some (by decide) a1
  have n1 : (numF 6 40 st).1 = (M1.length : Int) := by omega
  have n2 : (numF 6 1024 Y).1 = (M2.length : Int) := by omega
  have n3 : (numF 6 1024 X).1 = (M3.length : Int) := by omega
  refine ⟨m1, g1, ?_, ⟨f1', ?_, f3', ?_, ?_, ?_⟩⟩
  · unfold layB
    try simp only
    rw [b1', b2', b3', k1, d1, k2, d2, k3, d3, n1, n2, n3]
    simp only [List.append_assoc]
  · simp only; rw [b2']; exact f2
  · simp only; rw [b1']; omega
  · simp only; rw [b2']; omega
  · simp only; rw [b3']; omega
set_option maxHeartbeats 8000000 in
theorem bread_any (rb : Nat) (st : RS) (w : World) (h : Rs w rb st) :
    Calls Tryz.prog 10 #[.pointer (some ⟨rb, 0, none⟩)] w fun e w' => ∃ base bb vw ve vm k c, e = .returned (.pointer (some ⟨bb, 0, none⟩)) ∧ BkW w' base bb vw ve vm (readB st).W (readB st).E k c (readB st).N ∧ Rs w' rb (readB st).st ∧ w.grownBy w' (some rb) ∧ w.heap.size ≤ base ∧ k ≤ 1024 := by
  have hrb := h.lt
  have HNW := Lib.hid (bnew_any w)
  have HR := Lib.hid h
  clear h
  go_enter Tryz.func10, Tryz.ntmps10
  go_wp2_with fail
  refine HNW.out.mono ?_
  rintro e w1 ⟨rfl, K1, b1⟩
  have R1 := HR.out.below b1
  have G1 := (LowR.refl w.heap.size rb w).low b1
  go_wp2_with fail
  refine (rwatches_any _ _ rb _ _ _ _ _ _ st w1 K1 R1 hrb).mono ?_
  rintro e w2 ⟨rfl, vw, K2, R2, G2, hl2⟩
  replace G1 := G1.trans G2
  clear K1 R1 G2 b1 HNW HR
  go_wp2_with fail
  refine (revents_any _ _ rb _ _ _ _ _ _ _ w2 K2 R2 hrb).mono ?_
  rintro e w3 ⟨rfl, ve, K3, R3, G3, hl3⟩
  replace G1 := G1.trans G3
  clear K2 R2 G3
  go_wp2_with fail
  refine (rlast_any _ _ rb _ _ _ _ _ w3 K3 R3 hrb).mono ?_
  rintro e w4 ⟨rfl, vm, k, c, K4, R4, G4, hk⟩
  replace G1 := G1.trans G4
  clear K3 R3 G4
  have HGD := Lib.hid (@readB_good st)
  have HBD := Lib.hid (@readB_bad st)
  have HOK := Lib.hid (ok_rs rb _ w4 R4)
  have GG : w.grownBy w4 (some rb) := ⟨G1.os, G1.tape, G1.output, G1.size, fun i hi hne => G1.block i hi (fun e => hne (by rw [e]))⟩
  have HGG := Lib.hid GG
  have HK4 := Lib.hid K4
  have HR4 := Lib.hid R4
  clear K4 R4 G1 GG
  cases hS : okF (readLs (readEs (readWs st).st).st).st with
  | false =>
    have HE := Lib.hid (HBD.out hS)
    rw [hS] at HOK
    have HN2 := Lib.hid (bnew_any w4)
    clear HGD HBD hS
    go_wp2_with fail
    refine HOK.out.mono ?_
    rintro e w5 ⟨rfl, hw⟩
    obtain rfl := hw
    go_wp2_with fail
    refine HN2.out.mono ?_
    rintro e w6 ⟨rfl, K6, b6⟩
    have R6 := HR4.out.below b6
    have G6 := only_trans HGG.out (only_of_below b6 (some rb))
    go_wp2_with fail
    go_ret
    rw [HE.out]
    exact ⟨_, _, _, _, _, 0, 0, rfl, K6, R6, G6, HGG.out.size, by omega⟩
  | true =>
    have HE := Lib.hid (HGD.out hS)
    rw [hS] at HOK
    clear HGD HBD hS
    go_wp2_with fail
    refine HOK.out.mono ?_
    rintro e w5 ⟨rfl, hw⟩
    obtain rfl := hw
    go_wp2_with fail
    go_ret
    rw [HE.out]
    exact ⟨_, _, vw, ve, vm, k, c, rfl, HK4.out, HR4.out, HGG.out, Nat.le_refl _, hk⟩
end Go.Proofs.YtbbdokfankgllaaGreatDoor
