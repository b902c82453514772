/- readNode and fits: a node from the reader, and whether it may be where it is. No conditions beyond those in each statement. -/
import Derived.Test.YtblcpihfnpgfiaaGreatDoorTreeRd
import Derived.Test.YtblcpihfnpgfiaaGreatDoorTreePlace
import Derived.Test.YtblcpihfnpgfiaaGreatDoorInvAll
import Derived.Deep.RegionHeld3
namespace Go.Proofs.YtblcpihfnpgfiaaGreatDoor
open Go.RowKit Go.Maps
set_option linter.unusedVariables false
set_option linter.unusedSimpArgs false
set_option maxRecDepth 100000

theorem num_st (rb : Nat) (s s' : RS) (a : Int) (h : numF 6 281474976710655 s = (a, s')) (W : World) (hW : Rs W rb s) : Calls Tryz.prog 47 #[.pointer (some ⟨rb, 0, none⟩), .int .i64 281474976710655] W fun e w' => e = .returned (.int .i64 a) ∧ Rs w' rb s' ∧ W.grownBy w' (some rb) := by
  have := num_rs rb 281474976710655 s W hW
  rw [show max (281474976710655 : Int) 0 = 281474976710655 by decide, h] at this
  exact this
theorem text_st (rb : Nat) (s s' : RS) (a : List UInt8) (h : textF 60 s = (a, s')) (W : World) (hW : Rs W rb s) : Calls Tryz.prog 65 #[.pointer (some ⟨rb, 0, none⟩), .int .i64 60] W fun e w' => e = .returned (.string (bs a)) ∧ Rs w' rb s' ∧ W.grownBy w' (some rb) := by
  have := text_rs rb 60 s W hW
  rw [h] at this
  exact this
theorem rnode_results (W : World) (tmps : Array Value) (b : Nat) (n : Nd) (s : ByteArray) (h2 : tmps.getD 2 undef = .string s) (h3 : tmps.getD 3 undef = .pointer (some ⟨b, 0, none⟩)) (hN : NdB W b n) :
    (results Tryz.f48 tmps).run Tryz.prog W = .ok (.tuple #[.string s, ndV n]) W := by
  obtain ⟨⟨c0, c1, c2, c3, c4, c5, c6⟩, _⟩ := NdB.cells hN
  simp at h2 h3
  simp [results, Tryz.results48, go_sem, h2, h3, c0, c1, c2, c3, c4, c5, c6, ndV]
theorem NdB.kept {w w' : World} {b r : Nat} {n : Nd} (h : NdB w b n) (hg : w.grownBy w' (some r)) (hne : b ≠ r) : NdB w' b n := (hg.block b (NdB.lt h) (fun e => hne (Option.some.inj e))).trans h
theorem only_low {a w x : World} {rb m : Nat} (h : a.grownBy w (some rb)) (k : Below m w x) (hm : a.heap.size ≤ m) : a.grownBy x (some rb) :=
  ⟨k.os.trans h.os, k.tape.trans h.tape, k.output.trans h.output, Nat.le_trans h.size k.size, fun i hi hne => (k.block i (by omega)).trans (h.block i hi hne)⟩
def F3n (s : Value) (n : Nd) : Nat → Value → Prop
  | 0, v => v = s
  | 1, v => v = ndV n
  | 2, v => v = s
  | _, _ => True
theorem Rs.other {x y : World} {c : Nat} {st : RS} (h : Rs x c st) (hk : y.heap[c]? = x.heap[c]?) : Rs y c st := by
  cases st with
  | none => exact hk.trans h
  | some l => exact ⟨hk.trans h.1, h.2⟩
set_option maxHeartbeats 8000000 in
theorem readnode_any (rb : Nat) (st : RS) (w : World) (h : Rs w rb st) :
    Calls Tryz.prog 48 #[.pointer (some ⟨rb, 0, none⟩)] w fun e w' => e = .returned (.tuple #[.string (bs (rdNd st).1.1), ndV (rdNd st).1.2]) ∧ Rs w' rb (rdNd st).2 ∧ w.grownBy w' (some rb) := by
  have hrb := h.lt
  have b1 := (Below.refl _ w).alloc (Nat.le_refl _) (.cells (ndC Nd.zero) 40)
  have N1 := NdB.new w Nd.zero
  have R1 := h.below b1
  have G1 : w.grownBy (w.alloc (.cells (ndC Nd.zero) 40)) (some rb) := only_of_below b1 _
  obtain ⟨s, s0, hs⟩ : ∃ a b, textF 60 st = (a, b) := ⟨_, _, rfl⟩
  obtain ⟨d, s1, hd⟩ : ∃ a b, textF 60 s0 = (a, b) := ⟨_, _, rfl⟩
  obtain ⟨a, s2, ha⟩ : ∃ a b, numF 6 281474976710655 s1 = (a, b) := ⟨_, _, rfl⟩
  obtain ⟨b, s3, hb⟩ : ∃ a b, numF 6 281474976710655 s2 = (a, b) := ⟨_, _, rfl⟩
  obtain ⟨c, s4, hc⟩ : ∃ a b, numF 6 281474976710655 s3 = (a, b) := ⟨_, _, rfl⟩
  obtain ⟨p, s5, hp⟩ : ∃ a b, numF 6 281474976710655 s4 = (a, b) := ⟨_, _, rfl⟩
  obtain ⟨q, s6, hq⟩ : ∃ a b, numF 6 281474976710655 s5 = (a, b) := ⟨_, _, rfl⟩
  obtain ⟨u, s7, hu⟩ : ∃ a b, numF 6 281474976710655 s6 = (a, b) := ⟨_, _, rfl⟩
  have hR : rdNd st = ((s, ⟨bs d, a, b, c, p, q, u⟩), s7) := by
    unfold rdNd; simp only [hs, hd, ha, hb, hc, hp, hq, hu]
  rw [hR]
  have HS := Lib.hid hs
  have HD := Lib.hid hd
  have HA := Lib.hid ha
  have HB := Lib.hid hb
  have HC := Lib.hid hc
  have HP := Lib.hid hp
  have HQ := Lib.hid hq
  have HU := Lib.hid hu
  clear hR hs hd ha hb hc hp hq hu b1
  go_enter Tryz.func48, Tryz.ntmps48
  go_wp2_with fail
  refine (text_st rb _ _ _ HS.out _ R1).mono ?_
  rintro e w2 ⟨rfl, R2, g2⟩
  replace G1 := only_trans G1 g2
  have N2 := N1.kept g2 (by omega)
  clear N1 R1 g2
  go_wp2_with fail
  refine (text_st rb _ _ _ HD.out _ R2).mono ?_
  rintro e w3 ⟨rfl, R3, g2⟩
  replace G1 := only_trans G1 g2
  have N3 := N2.kept g2 (by omega)
  clear N2 R2 g2
  go_wp2_with fail
  refine (num_st rb _ _ _ HA.out _ R3).mono ?_
  rintro e w4 ⟨rfl, R4, g2⟩
  replace G1 := only_trans G1 g2
  have N4 := N3.kept g2 (by omega)
  clear N3 R3 g2
  go_wp2_with fail
  refine (num_st rb _ _ _ HB.out _ R4).mono ?_
  rintro e w5 ⟨rfl, R5, g2⟩
  replace G1 := only_trans G1 g2
  have N5 := N4.kept g2 (by omega)
  clear N4 R4 g2
  go_wp2_with fail
  refine (num_st rb _ _ _ HC.out _ R5).mono ?_
  rintro e w6 ⟨rfl, R6, g2⟩
  replace G1 := only_trans G1 g2
  have N6 := N5.kept g2 (by omega)
  clear N5 R5 g2
  go_wp2_with fail
  refine (num_st rb _ _ _ HP.out _ R6).mono ?_
  rintro e w7 ⟨rfl, R7, g2⟩
  replace G1 := only_trans G1 g2
  have N7 := N6.kept g2 (by omega)
  clear N6 R6 g2
  go_wp2_with fail
  refine (num_st rb _ _ _ HQ.out _ R7).mono ?_
  rintro e w8 ⟨rfl, R8, g2⟩
  replace G1 := only_trans G1 g2
  have N8 := N7.kept g2 (by omega)
  clear N7 R7 g2
  go_wp2_with fail
  refine (num_st rb _ _ _ HU.out _ R8).mono ?_
  rintro e w9 ⟨rfl, R9, g2⟩
  replace G1 := only_trans G1 g2
  have N9 := N8.kept g2 (by omega)
  clear N8 R8 g2
  obtain ⟨n, hn⟩ : ∃ n : Nd, n = ⟨bs d, a, b, c, p, q, u⟩ := ⟨_, rfl⟩
  obtain ⟨w10, hst, NA, bA, hsz⟩ := newN w9 n
  have N10 := N9.below bA
  have R10 := R9.below bA
  have GA := only_low G1 bA G1.size
  have hne : w.heap.size < w9.heap.size := NdB.lt N9
  rw [hn] at hst
  simp only [ndV] at hst
  have HST := Lib.hid hst
  have HN := Lib.hid hn
  clear hst hn N9 R9 G1 bA
  go_upto_region 3 with (refine wpList_store_run HST.out rfl rfl rfl rfl ?_)
  have hld := run_loadN NA
  obtain ⟨W, hst2, NW, BW, KW, hsW⟩ := storeN N10.drew n
  have BW2 : w.grownBy W (some rb) := only_low (m := w.heap.size) GA (BW w.heap.size w10 (Nat.le_refl _) (Below.refl w.heap.size w10).drew) (Nat.le_refl _)
  have hneb : w9.heap.size ≠ w.heap.size := by omega
  have HNW := Lib.hid NW
  have HRW := Lib.hid (show Rs W rb s7 from R10.other (KW rb (by omega)))
  have HBW := Lib.hid BW2
  have HLD := Lib.hid (run_loadN NA.drew)
  have HS3 := Lib.hid hst2
  clear hst2 hld NW BW KW BW2 HS HD HA HB HC HP HQ HU
  refine wp_region_steps_last 3 (fun i v _ => F3n (.string (bs s)) n i v) (fun x y => y = w10.drew) (by kernel_rfl) (by kernel_rfl) (by kernel_rfl) (by kernel_rfl) (by kernel_rfl) rfl (fun i v x y _ h _ => h) (fun x y z h1 h2 => h2) ?_ ?_
  · rintro i o hi ho x W9 rfl hF
    match i, ho with
    | 0, ho =>
      obtain rfl := Option.some.inj ho
      exact gstep_move rfl (wanted0 rfl) _ rfl _ (eval_of 4 _ (by kernel_rfl) rfl) ⟨_, rfl, rfl, rfl⟩
    | 1, ho =>
      obtain rfl := Option.some.inj ho
      exact gstep_load rfl (wanted0 rfl) _ _ rfl _ (eval_of 5 _ (by kernel_rfl) rfl) _ HLD.out ⟨_, rfl, rfl, rfl⟩
    | 2, ho =>
      obtain rfl := Option.some.inj ho
      exact gstep_assign rfl (wanted0 rfl) _ rfl _ (eval_at 23 0 _ (by kernel_rfl) (show 23 < 25 by decide) (hF 0 (by kernel_rfl))) ⟨_, rfl, rfl, rfl⟩
    | n + 3, ho => omega
  · rintro o ho x W9 rfl hF
    obtain rfl := Option.some.inj ho
    have hx2 : x 2 = .string (bs s) := hF 2 (by decide)
    refine gstep_store rfl (wanted0 rfl) _ _ _ rfl _ _ (eval_of 3 _ (by kernel_rfl) rfl) (eval_at 24 1 _ (by kernel_rfl) (show 24 < 25 by decide) (hF 1 (by decide))) _ HS3.out ?_
    simp only [putAll, Act.put, List.setIfInBounds_toArray, List.set_cons_succ, List.set_cons_zero]
    rw [hx2]
    clear hF ho
    go_wp2_with fail
    rw [← HN.out]
    exact bodyPost_ret (rnode_results _ _ w.heap.size n (bs s) rfl rfl HNW.out) rfl ⟨rfl, HRW.out, HBW.out⟩
end Go.Proofs.YtblcpihfnpgfiaaGreatDoor
