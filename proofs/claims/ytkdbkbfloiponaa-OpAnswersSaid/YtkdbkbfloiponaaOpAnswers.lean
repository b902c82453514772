/- OpAnswers: any result as bytes, and back; whatever bytes are one, just so, or none; no condition on the input. -/
import Derived.Test.YtkdbkbfloiponaaOtGood
import Derived.Test.YtkdbkbfloiponaaRows
import Derived.ProofKit
import Derived.OpenShut
import Derived.ShutString
import Derived.ChangeOld
import Derived.Deep.DeepHandedRow
import Derived.Lib.LaidTab
import Derived.Stop.LaidErr
import Derived.Lay
namespace Go.Proofs.Ytkdbkbfloiponaa.opAnswers
open Go.ChangeShapes Go.WideShapes Go.ChangeAt Go.RowKit
open Go.ChangeMaps (open_string shut_string)
set_option linter.unusedVariables false
set_option maxRecDepth 100000
theorem call_tt (W : World) (v u : Value) : (callFunc 14 #[v, u]).run Try.prog W = .ok (.enter 14 #[v, u]) W := by kernel_rfl
theorem call_nn (W : World) (v u : Value) : (callFunc 13 #[v, u]).run Try.prog W = .ok (.enter 13 #[v, u]) W := by kernel_rfl
theorem run_fO0 (W : World) (b : Nat) : (Instr.fieldAt 40 (.pointer (some ⟨b, 0, none⟩)) 0).run Try.prog W = .ok (.pointer (some ⟨b, 0, none⟩)) W := by go_simp
theorem run_fO1 (W : World) (b : Nat) : (Instr.fieldAt 40 (.pointer (some ⟨b, 0, none⟩)) 1).run Try.prog W = .ok (.pointer (some ⟨b, 1, none⟩)) W := by go_simp
theorem run_ldS (W : World) (p : Addr) (z : ByteArray) (h : W.cell? p = some (.string z)) : (Instr.loadAt 9 (.pointer (some p))).run Try.prog W = .ok (.string z) W := by go_simp
theorem run_ldI (W : World) (p : Addr) (z : Int) (h : W.cell? p = some (.int .i64 z)) : (Instr.loadAt 3 (.pointer (some p))).run Try.prog W = .ok (.int .i64 z) W := by go_simp
theorem run_row1S (W : World) (z : ByteArray) : (Instr.buildSlice 66 1 #[(0, .string z)]).run Try.prog W = .ok (.slice (some ⟨W.heap.size, 0, none⟩) 1 1) (W.alloc (.cells #[.string z] 9)) := by go_simp
theorem run_row1I (W : World) (z : Int) : (Instr.buildSlice 63 1 #[(0, .int .i64 z)]).run Try.prog W = .ok (.slice (some ⟨W.heap.size, 0, none⟩) 1 1) (W.alloc (.cells #[.int .i64 z] 3)) := by go_simp
def F11 (vb : Value) (B ob : Nat) (l : List UInt8) (p : ByteArray) (z : Int) : Nat → Value → World → Prop
  | 0, u, _ => u = vb
  | 1, u, _ => u = .pointer (some ⟨ob, 0, none⟩)
  | 2, u, _ => u = .string p
  | 3, u, w => ∃ g, u = .slice (some ⟨g, 0, none⟩) 1 1 ∧ g < w.heap.size ∧ w.cell? ⟨g, 0, none⟩ = some (.string p)
  | 4, u, w => Bs w B u (l ++ textsE [p])
  | 5, u, _ => u = .pointer (some ⟨ob, 1, none⟩)
  | 6, u, _ => u = .int .i64 z
  | 7, u, w => ∃ g, u = .slice (some ⟨g, 0, none⟩) 1 1 ∧ g < w.heap.size ∧ w.cell? ⟨g, 0, none⟩ = some (.int .i64 z)
  | 8, u, w => Bs w B u ((l ++ textsE [p]) ++ numsE [z])
  | _, _, _ => True
theorem F11_keep {vb : Value} {B ob : Nat} {l : List UInt8} {p : ByteArray} {z : Int} (i : Nat) {u : Value} {w w' : World} (h : F11 vb B ob l p z i u w) (hb : Below w.heap.size w w') : F11 vb B ob l p z i u w' := by
  match i, h with
  | 0, h => exact h
  | 1, h => exact h
  | 2, h => exact h
  | 3, h => obtain ⟨g, h1, h2, h3⟩ := h; exact ⟨g, h1, Nat.lt_of_lt_of_le h2 hb.size, (hb.cell (p := ⟨g, 0, none⟩) h2).trans h3⟩
  | 4, h => exact Bs.below h hb
  | 5, h => exact h
  | 6, h => exact h
  | 7, h => obtain ⟨g, h1, h2, h3⟩ := h; exact ⟨g, h1, Nat.lt_of_lt_of_le h2 hb.size, (hb.cell (p := ⟨g, 0, none⟩) h2).trans h3⟩
  | 8, h => exact Bs.below h hb
  | n + 9, _ => trivial
set_option maxHeartbeats 16000000 in
theorem walk (v0 : Value) (c : Rt) (a1 : ByteArray) (w : World) (w0 : RtR w v0 c) (w1 : a1.size ≤ maxLen) :
    Calls Try.prog 4 #[v0, .string a1] w fun e w' => e = .returned (.bool true) ∧ Below w.heap.size w w' := by
  have HH := Lib.hid (fun W : World => head_any W)
  obtain ⟨hok, sv, rfl, hO⟩ := w0
  obtain ⟨a, cap, rfl, hLm⟩ := (show ∃ a cap, sv = .slice a c.outs.length cap ∧ c.outs.length ≤ maxLen by obtain ⟨a, cap, h1, h2, _⟩ := hO; exact ⟨a, cap, h1, h2⟩)
  have HHE : Hid (headR c = numsE [c.e, c.at_, c.when_, (c.outs.length : Int)]) := Lib.hid rfl
  have HER : Hid (encR c = headR c ++ c.outs.flatMap encT) := Lib.hid rfl
  have hH0l : (headR c).length = 24 := by unfold headR; rw [numsE_length]; rfl
  have HO := Lib.hid hO
  have HOK := Lib.hid hok
  obtain ⟨hk1, hk2, hk3⟩ := hok
  unfold InR at hk1 hk2 hk3
  unfold maxLen at hLm w1
  have bA := (Below.refl w.heap.size w).alloc (Nat.le_refl _) (.cells #[.int .i64 c.e, .int .i64 c.at_, .slice a c.outs.length cap, .int .i64 c.when_] 36)
  have N1 : RtB (w.alloc (.cells #[.int .i64 c.e, .int .i64 c.at_, .slice a c.outs.length cap, .int .i64 c.when_] 36)) w.heap.size (.slice a c.outs.length cap) c := RtB.new w _ _
  have hV : ∀ v, rtV v c = .agg #[.int .i64 c.e, .int .i64 c.at_, v, .int .i64 c.when_] := fun v => rfl
  have HV := Lib.hid hV
  rw [hV]
  clear hO hV
  go_enter Try.func4, Try.ntmps4
  go_upto_region 1 with fail
  obtain ⟨w2, hw2⟩ : ∃ w2, w2 = w.alloc (.cells #[.int .i64 c.e, .int .i64 c.at_, .slice a c.outs.length cap, .int .i64 c.when_] 36) := ⟨_, rfl⟩
  rw [← hw2] at bA N1 ⊢
  obtain ⟨cb, hcb⟩ : ∃ cb, cb = w.heap.size := ⟨_, rfl⟩
  rw [← hcb] at N1 ⊢
  have HCB := Lib.hid (show w.heap.size ≤ cb by rw [hcb]; exact Nat.le_refl _)
  have HN1 := Lib.hid N1
  clear hw2 N1 hcb
  go_wp2_with fail
  refine (HH.out _).mono ?_
  rintro e w3 ⟨rfl, b3⟩
  have bB := bA.trans (b3.mono bA.size)
  have N3 := HN1.out.below b3
  obtain ⟨⟨c0, c1, c2, c3⟩, _⟩ := N3.cells
  have HN3 := Lib.hid N3
  clear b3 bA HN1 HH N3
  cases h0 : decide ((4 : Int) < (c.outs.length : Int)) with
  | true =>
    go_wp2_with fail
    go_ret
    exact ⟨rfl, bB⟩
  | false =>
  cases h1 : decide ((600 : Int) < (a1.size : Int)) with
  | true =>
    go_wp2_with fail
    go_ret
    exact ⟨rfl, bB⟩
  | false =>
  cases h2 : decide (c.e < 0) with
  | true =>
    go_wp2_with fail
    go_ret
    exact ⟨rfl, bB⟩
  | false =>
  cases h3 : decide ((1024 : Int) < c.e) with
  | true =>
    go_wp2_with fail
    go_ret
    exact ⟨rfl, bB⟩
  | false =>
  cases h4 : decide (c.at_ < 0) with
  | true =>
    go_wp2_with fail
    go_ret
    exact ⟨rfl, bB⟩
  | false =>
  cases h5 : decide ((4 : Int) < c.at_) with
  | true =>
    go_wp2_with fail
    go_ret
    exact ⟨rfl, bB⟩
  | false =>
  cases h6 : decide (c.when_ < 0) with
  | true =>
    go_wp2_with fail
    go_ret
    exact ⟨rfl, bB⟩
  | false =>
  cases h7 : decide ((281474976710655 : Int) < c.when_) with
  | true =>
    go_wp2_with fail
    go_ret
    exact ⟨rfl, bB⟩
  | false =>
  have g0 : c.outs.length ≤ 4 := by have := of_decide_eq_false h0; omega
  have g1 : a1.size ≤ 600 := by have := of_decide_eq_false h1; omega
  have g2 : 0 ≤ c.e ∧ c.e ≤ 1024 := by have := of_decide_eq_false h2; have := of_decide_eq_false h3; omega
  have g3 : 0 ≤ c.at_ ∧ c.at_ ≤ 4 := by have := of_decide_eq_false h4; have := of_decide_eq_false h5; omega
  have g4 : 0 ≤ c.when_ ∧ c.when_ ≤ 281474976710655 := by have := of_decide_eq_false h6; have := of_decide_eq_false h7; omega
  have bN := (Below.refl _ w3).alloc (Nat.le_refl _) (.cells #[.int .i64 c.e, .int .i64 c.at_, .int .i64 c.when_, .int .i64 (c.outs.length : Int)] 3)
  have HNM := Lib.hid (num_list (.slice none 0 0) [] w3.heap.size 0 4 [c.e, c.at_, c.when_, (c.outs.length : Int)] (w3.alloc (.cells #[.int .i64 c.e, .int .i64 c.at_, .int .i64 c.when_, .int .i64 (c.outs.length : Int)] 3)) (Src.nil _) (by simp) (by simp)
    (getD_four _ _ _ _ (fun z => -9223372036854775808 ≤ z ∧ z ≤ 9223372036854775807) hk1 hk2 hk3 (by omega))
    (fun j hj => cells_new (by match j, hj with
      | 0, _ => rfl
      | 1, _ => rfl
      | 2, _ => rfl
      | 3, _ => rfl)))
  go_wp2_with fail
  refine HNM.out.mono ?_
  rintro e w4 ⟨v4, rfl, B4, b4⟩
  rw [List.nil_append, ← HHE.out] at B4
  have b34 := bN.trans (b4.mono bN.size)
  have bC := bB.trans (b34.mono bB.size)
  have N4 := HN3.out.below b34
  have hcs := HCB.out
  have hc3 : cb < w3.heap.size := HN3.out.lt
  have hcl : cb + 1 ≤ w4.heap.size := N4.lt
  have B4' : Bs w4 (cb + 1) v4 (headR c ++ (c.outs.take 0).flatMap encT) := by
    have h := B4.mono (C := cb + 1) (by simp; omega)
    simpa using h
  clear c0 c1 c2 c3 HNM B4 b4 bN b34 HN3 h0 h1 h2 h3 h4 h5 h6 h7 bB
  obtain ⟨⟨c0, c1, c2, c3⟩, _⟩ := N4.cells
  have HBC := Lib.hid bC
  have HN4 := Lib.hid N4
  clear N4 bC
  go_wp2_with fail
  go_loopw [5, 68] (fun ov iv wr => ∃ j : Nat, j ≤ c.outs.length ∧ iv = .int .i64 j ∧ Bs wr (cb + 1) ov (headR c ++ (c.outs.take j).flatMap encT) ∧ Below w4.heap.size w4 wr ∧ Hid (∀ o ∈ c.outs.take j, goodT o)) (fun _ iv _ => c.outs.length - (intOf iv).toNat)
  case atStart => exact ⟨0, Nat.zero_le _, rfl, B4', Below.refl _ _, Lib.hid (by simp)⟩
  case round =>
    obtain ⟨j, hj, rfl, HBS, hb, HGD⟩ := hrel
    clear B4'
    by_cases hlt : j < c.outs.length
    · obtain ⟨hok, g, off, hae, h0, h1⟩ := (HO.out.below HBC.out).at hb hlt
      subst hae
      have HSN := Lib.hid (encTs_snoc c.outs j hlt)
      have HTK := Lib.hid (take_snoc_getD c.outs Ot.zero j hlt)
      have hEL := encTs_len (c.outs.take j)
      rw [List.length_take] at hEL
      have t2 : IntKind.i64.wrap ((j : Int) + 1) = (j : Int) + 1 := IntWalk.i64_in _ (by omega)
      obtain ⟨z, hz⟩ : ∃ z, z = c.outs.getD j Ot.zero := ⟨_, rfl⟩
      rw [← hz] at hok h0 h1 HSN HTK
      obtain ⟨zp, zv⟩ := z
      obtain ⟨o1, o2⟩ := hok
      unfold InR at o2
      unfold maxLen at o1
      simp only at h0 h1 o1 o2
      have HEO := Lib.hid (show encT ⟨zp, zv⟩ = textsE [zp] ++ numsE [zv] by unfold encT; rw [textsE_one]; simp [numsE])
      have hj0 : (0 : Int) ≤ (j : Int) := by omega
      have hji : (j : Int) < (c.outs.length : Int) := by omega
      obtain ⟨M, hM⟩ : ∃ M, M = headR c ++ (c.outs.take j).flatMap encT := ⟨_, rfl⟩
      have hMl : M.length ≤ 24 + 65543 * 4 := by rw [hM, List.length_append]; omega
      rw [← hM] at HBS
      have HM := Lib.hid hM
      have HMB := Lib.hid hMl
      clear hz hM hEL hMl
      have bD := hb.alloc hb.size (.cells #[.string zp, .int .i64 zv] 40)
      have bE := (Below.refl _ wr).alloc (Nat.le_refl _) (.cells #[.string zp, .int .i64 zv] 40)
      have N6 : OtB (wr.alloc (.cells #[.string zp, .int .i64 zv] 40)) wr.heap.size ⟨zp, zv⟩ := OtB.new wr ⟨zp, zv⟩
      have S6 := HBS.below bE
      go_upto_region 9 with fail
      obtain ⟨w6, hw6⟩ : ∃ w6, w6 = wr.alloc (.cells #[.string zp, .int .i64 zv] 40) := ⟨_, rfl⟩
      obtain ⟨ob, hob⟩ : ∃ ob, ob = wr.heap.size := ⟨_, rfl⟩
      rw [← hw6] at bD N6 S6 ⊢
      rw [← hob] at N6 ⊢
      clear hw6 bE h0 h1 hob HBS
      obtain ⟨x0, x1⟩ := N6.cells
      simp only at x0 x1
      have bZ := HBC.out.trans (bD.mono HBC.out.size)
      have HN6 := Lib.hid N6
      have HS6 := Lib.hid S6
      clear N6 S6
      cases f0 : decide ((60 : Int) < (zp.size : Int)) with
      | true =>
        go_wp2_with fail
        go_ret
        exact ⟨rfl, bZ⟩
      | false =>
      cases f1 : decide (zv < 0) with
      | true =>
        go_wp2_with fail
        go_ret
        exact ⟨rfl, bZ⟩
      | false =>
      cases f2 : decide ((281474976710655 : Int) < zv) with
      | true =>
        go_wp2_with fail
        go_ret
        exact ⟨rfl, bZ⟩
      | false =>
      have hgz : goodT ⟨zp, zv⟩ := by
        have q0 := of_decide_eq_false f0
        have q1 := of_decide_eq_false f1
        have q2 := of_decide_eq_false f2
        exact ⟨by show zp.size ≤ 60; omega, by show 0 ≤ zv; omega, by show zv ≤ _; omega⟩
      have HG2 : Hid (∀ o ∈ c.outs.take (j + 1), goodT o) := Lib.hid (fun o ho => by
        rw [HTK.out] at ho
        rcases List.mem_append.1 ho with ho | ho
        · exact HGD.out o ho
        · rw [List.mem_singleton.1 ho]; exact hgz)
      have hzp : zp.size ≤ 60 := hgz.1
      go_upto_region 11 with fail
      clear x0 x1 f0 f1 f2 bZ hgz HTK
      have HDW : Hid (∀ W : World, Below w6.drew.heap.size w6.drew W → Below w4.heap.size w4 W ∧ OtB W ob ⟨zp, zv⟩ ∧ Bs W (cb + 1) u5 M ∧ cb + 1 ≤ W.heap.size) := Lib.hid fun W hW => by
        have hW' : Below w6.heap.size w6 W := (Below.refl _ w6).drew.trans (hW.mono (Nat.le_refl _))
        exact ⟨bD.trans (hW'.mono bD.size), HN6.out.below hW', HS6.out.below hW', Nat.le_trans hcl (Nat.le_trans bD.size hW'.size)⟩
      refine wp_region_steps_tail 9 0 (F11 u5 (cb + 1) ob M zp zv) (fun x y => Below x.heap.size x y) (by kernel_rfl) (by kernel_rfl) (by kernel_rfl) (by kernel_rfl) (by kernel_rfl) (by kernel_rfl) (Below.refl _ _) (fun i v x y _ h hb => F11_keep i h hb) (fun x y z h1 h2 => h1.trans (h2.mono h1.size)) ?_ ?_
      · intro i o hi ho x W hR hF hX
        obtain ⟨y0, y1⟩ := (HDW.out W hR).2.1.cells
        match i, ho with
        | 0, ho =>
          obtain rfl := Option.some.inj ho
          exact gstep_move rfl (wanted0 rfl) _ rfl _ (eval_at 5 9 _ (by kernel_rfl) (show 5 < 135 by decide) ((hX 9 _ (by decide) rfl).trans rfl)) ⟨_, rfl, rfl, Below.refl _ _⟩
        | 1, ho =>
          obtain rfl := Option.some.inj ho
          exact gstep_field rfl (wanted0 rfl) _ _ _ rfl _ (eval_of 7 _ (by kernel_rfl) rfl) _ (run_fO0 W _) ⟨_, rfl, rfl, Below.refl _ _⟩
        | 2, ho =>
          obtain rfl := Option.some.inj ho
          exact gstep_load rfl (wanted0 rfl) _ _ rfl _ (eval_at 87 1 _ (by kernel_rfl) (show 87 < 135 by decide) (hF 1 (by kernel_rfl))) _ (run_ldS W _ _ y0) ⟨_, rfl, rfl, Below.refl _ _⟩
        | 3, ho =>
          obtain rfl := Option.some.inj ho
          exact gstep_row1 rfl (wanted0 rfl) _ _ rfl _ (eval_at 88 2 _ (by kernel_rfl) (show 88 < 135 by decide) (hF 2 (by kernel_rfl))) _ _ (run_row1S W _) ⟨_, rfl, ⟨W.heap.size, rfl, by simp, cells_new (j := 0) rfl⟩, (Below.refl _ W).alloc (Nat.le_refl _) _⟩
        | 4, ho =>
          obtain rfl := Option.some.inj ho
          obtain ⟨g, hg1, hg2, hg3⟩ := hF 3 (by kernel_rfl)
          refine gstep_call2 rfl (wanted0 rfl) _ _ _ _ rfl _ _ (eval_at 86 0 _ (by kernel_rfl) (show 86 < 135 by decide) (hF 0 (by kernel_rfl))) (eval_at 89 3 _ (by kernel_rfl) (show 89 < 135 by decide) hg1) (call_tt W _ _) ?_
          have hM4 := HMB.out
          refine (text_list u5 M g 0 1 [zp] W (HDW.out W hR).2.2.1.src hg2 (by simp only [List.length_cons, List.length_nil]; omega) (fun j hj => by match j, hj with
            | 0, _ => simp [maxLen]; omega) (fun j hj => by match j, hj with
            | 0, _ => exact hg3)).mono ?_
          rintro e W2 ⟨v, rfl, hB, hb⟩
          exact ⟨_, rfl, _, rfl, hB.mono (HDW.out W hR).2.2.2, hb⟩
        | 5, ho =>
          obtain rfl := Option.some.inj ho
          exact gstep_field rfl (wanted0 rfl) _ _ _ rfl _ (eval_of 7 _ (by kernel_rfl) rfl) _ (run_fO1 W _) ⟨_, rfl, rfl, Below.refl _ _⟩
        | 6, ho =>
          obtain rfl := Option.some.inj ho
          exact gstep_load rfl (wanted0 rfl) _ _ rfl _ (eval_at 91 5 _ (by kernel_rfl) (show 91 < 135 by decide) (hF 5 (by kernel_rfl))) _ (run_ldI W _ _ y1) ⟨_, rfl, rfl, Below.refl _ _⟩
        | 7, ho =>
          obtain rfl := Option.some.inj ho
          exact gstep_row1 rfl (wanted0 rfl) _ _ rfl _ (eval_at 92 6 _ (by kernel_rfl) (show 92 < 135 by decide) (hF 6 (by kernel_rfl))) _ _ (run_row1I W _) ⟨_, rfl, ⟨W.heap.size, rfl, by simp, cells_new (j := 0) rfl⟩, (Below.refl _ W).alloc (Nat.le_refl _) _⟩
        | 8, ho =>
          obtain rfl := Option.some.inj ho
          obtain ⟨g, hg1, hg2, hg3⟩ := hF 7 (by kernel_rfl)
          have h4 : Bs W (cb + 1) (x 4) (M ++ textsE [zp]) := hF 4 (by kernel_rfl)
          refine gstep_call2 rfl (wanted0 rfl) _ _ _ _ rfl _ _ (eval_at 90 4 _ (by kernel_rfl) (show 90 < 135 by decide) rfl) (eval_at 93 7 _ (by kernel_rfl) (show 93 < 135 by decide) hg1) (call_nn W _ _) ?_
          have hM4 := HMB.out
          have hl5 := textsE_length [zp]
          refine (num_list (x 4) (M ++ textsE [zp]) g 0 1 [zv] W h4.src hg2 (by rw [List.length_append]; simp only [List.length_cons, List.length_nil] at hl5 ⊢; omega) (fun j hj => by match j, hj with
            | 0, _ => exact o2) (fun j hj => by match j, hj with
            | 0, _ => exact hg3)).mono ?_
          rintro e W2 ⟨v, rfl, hB, hb⟩
          exact ⟨_, rfl, _, rfl, hB.mono (HDW.out W hR).2.2.2, hb⟩
        | n + 9, ho => omega
      · intro x W hR hF
        have h8 : Bs W (cb + 1) (x 8) ((M ++ textsE [zp]) ++ numsE [zv]) := hF 8 (by decide)
        obtain ⟨bF, _, _, _⟩ := HDW.out W hR
        obtain ⟨g6, cp6, hx8, _⟩ := h8.cut (by rw [List.length_append, numsE_length]; simp only [List.length_cons, List.length_nil]; omega)
        have HR8 : Hid (Bs W (cb + 1) (x 8) (headR c ++ (c.outs.take (j + 1)).flatMap encT)) := Lib.hid (h8.mk (by rw [HSN.out, HEO.out, HM.out]; simp only [List.append_assoc]))
        obtain ⟨ln, hln⟩ : ∃ ln, ln = ((M ++ textsE [zp]) ++ numsE [zv]).length := ⟨_, rfl⟩
        rw [← hln] at hx8
        rw [hx8] at HR8
        refine gstep_assign rfl (wanted0 rfl) _ rfl _ (eval_at 94 8 _ (by kernel_rfl) (show 94 < 135 by decide) hx8) ?_
        unfold tailK
        simp only [putAll, Act.put, List.setIfInBounds_toArray, List.set_cons_succ, List.set_cons_zero]
        clear hF hR HDW hx8 h8 hln HSN HEO HM HMB bD HN6 HS6
        go_wp2_with fail
        go_roundw
        case rel => exact ⟨j + 1, by omega, by go_num, HR8.out, bF, HG2⟩
        case measure => simp [intOf]; omega
    · obtain rfl : j = c.outs.length := by omega
      rw [List.take_length, ← HER.out] at HBS
      have hgr : goodR c := ⟨g2, g3, g4, g0, by have := HGD.out; rw [List.take_length] at this; exact this⟩
      have hlt2 : decide ((c.outs.length : Int) < (c.outs.length : Int)) = false := by simp
      have hE0 : 0 < (encR c).length := by rw [HER.out, List.length_append]; omega
      have bL := HBC.out.trans (hb.mono HBC.out.size)
      have N5 := HN4.out.below hb
      have hou : ∀ o ∈ c.outs, o.Ok := fun o ho => by
        obtain ⟨q1, q2, q3⟩ := hgr.2.2.2.2 o ho
        exact ⟨by unfold maxLen; omega, by unfold InR; omega⟩
      have HBY := Lib.hid (rbytes_any (.slice a c.outs.length cap) c wr HOK.out (HO.out.below bL) (by omega))
      rw [HV.out] at HBY
      obtain ⟨S, hS⟩ : ∃ S : ByteArray, S = ⟨(encR c).toArray⟩ := ⟨_, rfl⟩
      have hSd : S.data.toList = encR c := by rw [hS]
      rw [← hS] at HBY
      have hEl : (encR c).length ≤ 1000000 := by
        have := encTs_len c.outs
        rw [HER.out, List.length_append]; omega
      have hSz : S.size ≤ 1000000 := by rw [hS, size_arr]; exact hEl
      have HST := Lib.hid (fun (W : World) (hW : Below wr.heap.size wr W) => (show (convert 37 9 u5).run Try.prog W = .ok (.string S) W by rw [hS]; exact run_str (HBS.below hW).src))
      have HAN := Lib.hid (fun W : World => answer_any S W (by omega))
      rw [hSd, readR_good c hgr] at HAN
      simp only at HAN
      obtain ⟨g6, cp6, hu5, _⟩ := HBS.cut hE0
      obtain ⟨nl, hnl⟩ : ∃ nl, nl = (encR c).length := ⟨_, rfl⟩
      rw [← hnl] at hu5
      subst hu5
      have HON := Lib.hid hou
      have HBL := Lib.hid bL
      clear c0 c1 c2 c3 hlt HBS hgr hE0 bL hou hS hSd hEl hnl HGD hb HBC HER HHE hH0l HN4
      obtain ⟨⟨c0, c1, c2, c3⟩, _⟩ := N5.cells
      have HN5 := Lib.hid N5
      clear N5
      go_wp2_with fail
      refine HBY.out.mono ?_
      rintro e W1 ⟨rfl, b1⟩
      have bM := HBL.out.trans (b1.mono HBL.out.size)
      clear HBY c0 c1 c2 c3
      go_wp2_with fail
      refine (HAN.out _).mono ?_
      rintro e W2 ⟨uq, rfl, O2, b2⟩
      have b12 := b1.trans (b2.mono b1.size)
      have R2 := O2.otsR (by unfold maxLen; omega) HON.out
      obtain ⟨aq, cq, rfl, _⟩ := O2.form
      rw [HV.out]
      have bN := (Below.refl _ W2).alloc (Nat.le_refl _) (.cells #[.int .i64 c.e, .int .i64 c.at_, .slice aq c.outs.length cq, .int .i64 c.when_] 36)
      have Q3 : RtB (W2.alloc (.cells #[.int .i64 c.e, .int .i64 c.at_, .slice aq c.outs.length cq, .int .i64 c.when_] 36)) W2.heap.size (.slice aq c.outs.length cq) c := RtB.new W2 _ c
      have b13 := b12.trans (bN.mono b12.size)
      have R3 := R2.below bN
      have N3 := HN5.out.below b13
      have bP := HBL.out.trans (b13.mono HBL.out.size)
      have RO3 := HO.out.below bP
      have hst3 := HST.out _ b13
      clear HAN O2 R2 b12 bM b1 b2 bN HN5 HBL HST
      go_upto_region 15 with fail
      obtain ⟨W3, hW3⟩ : ∃ W3, W3 = W2.alloc (.cells #[.int .i64 c.e, .int .i64 c.at_, .slice aq c.outs.length cq, .int .i64 c.when_] 36) := ⟨_, rfl⟩
      rw [← hW3] at Q3 R3 N3 bP RO3 hst3 ⊢
      obtain ⟨qb, hqb⟩ : ∃ qb, qb = W2.heap.size := ⟨_, rfl⟩
      rw [← hqb] at Q3 ⊢
      clear hW3 hqb b13
      have HSM := Lib.hid (rsame_any (.slice aq c.outs.length cq) (.slice a c.outs.length cap) c c W3 R3 RO3)
      rw [eqB_self, HV.out, HV.out] at HSM
      obtain ⟨⟨c0, c1, c2, c3⟩, _⟩ := N3.cells
      obtain ⟨⟨q0, q1, q2, q3⟩, _⟩ := Q3.cells
      have hee : (S.toList == S.toList) = true := by simp
      have HAS := Lib.hid (fun W : World => answer_any a1 W (by omega))
      obtain ⟨l, hl⟩ : ∃ l, l = a1.data.toList := ⟨_, rfl⟩
      rw [← hl] at HAS
      have HG := Lib.hid (fun h : (readR l).2 = 0 => readR_some h)
      have HT := Lib.hid (fun h : ¬ (readR l).2 = 0 => readR_two h)
      generalize hY : readR l = Y at HAS HG HT
      clear hY
      obtain ⟨d, ed⟩ := Y
      simp only at HAS HG HT
      clear N3 Q3 R3 RO3
      go_wp2_with fail
      refine HSM.out.mono ?_
      rintro e W4 ⟨rfl, b4⟩
      have bQ := bP.trans (b4.mono bP.size)
      clear c0 c1 c2 c3 q0 q1 q2 q3 HSM bP b4 hst3 hee
      by_cases he : ed = 0
      · subst he
        obtain ⟨g1', g2', g3', g4'⟩ := HG.out rfl
        have HW := Lib.hid (show ∀ v, rtV v d = .agg #[.int .i64 d.e, .int .i64 d.at_, v, .int .i64 d.when_] from fun v => rfl)
        have hS2 : (⟨(encR d).toArray⟩ : ByteArray) = a1 := by rw [g1', hl, arr_mk]
        have HD3 := Lib.hid g3'
        have HD4 := Lib.hid g4'
        have HSS := Lib.hid hS2
        clear HG HT hS2 g1' g3' g4' hl
        go_wp2_with fail
        refine (HAS.out _).mono ?_
        rintro e W5 ⟨ud, rfl, O5, b5⟩
        have bR := bQ.trans (b5.mono bQ.size)
        have R5 := O5.otsR (by unfold maxLen; omega) HD4.out
        obtain ⟨ad, cd, rfl, _⟩ := O5.form
        rw [HW.out]
        have bN := (Below.refl _ W5).alloc (Nat.le_refl _) (.cells #[.int .i64 d.e, .int .i64 d.at_, .slice ad d.outs.length cd, .int .i64 d.when_] 36)
        have D6 : RtB (W5.alloc (.cells #[.int .i64 d.e, .int .i64 d.at_, .slice ad d.outs.length cd, .int .i64 d.when_] 36)) W5.heap.size (.slice ad d.outs.length cd) d := RtB.new W5 _ d
        have R6 := R5.below bN
        have bS := bR.trans (bN.mono bR.size)
        have HB6 := Lib.hid (rbytes_any (.slice ad d.outs.length cd) d _ HD3.out R6 (by omega))
        rw [HSS.out, HW.out] at HB6
        clear HAS O5 R5 R6 b5 bQ bR bN D6
        have haa : (a1.toList == a1.toList) = true := by simp
        go_wp2_with fail
        refine HB6.out.mono ?_
        rintro e W6 ⟨rfl, b6⟩
        go_wp2_with fail
        go_ret
        exact ⟨by simp, bS.trans (b6.mono bS.size)⟩
      · have ht := HT.out he
        injection ht with h1 h2
        subst h1 h2
        clear HG HT he hl
        go_wp2_with fail
        refine (HAS.out _).mono ?_
        rintro e W5 ⟨ud, rfl, O5, b5⟩
        have bR := bQ.trans (b5.mono bQ.size)
        have R5 := O5.otsR (by show 0 ≤ maxLen; exact Nat.zero_le _) (fun x hx => by cases hx)
        obtain ⟨ad, cd, rfl, _⟩ := O5.form
        rw [show rtV (.slice ad Rt.zero.outs.length cd) Rt.zero = .agg #[.int .i64 0, .int .i64 0, .slice ad 0 cd, .int .i64 0] from rfl]
        have bN := (Below.refl _ W5).alloc (Nat.le_refl _) (.cells #[.int .i64 0, .int .i64 0, .slice ad 0 cd, .int .i64 0] 36)
        have R6 := R5.below bN
        have bS := bR.trans (bN.mono bR.size)
        have HSZ := Lib.hid (rsame_any (.slice ad 0 cd) (.slice none 0 0) Rt.zero Rt.zero _ R6 ⟨none, 0, rfl, Nat.zero_le _, (fun x hx => by cases hx), .inl rfl⟩)
        rw [eqB_self] at HSZ
        simp only [rtV, Rt.zero] at HSZ
        clear HAS O5 R5 R6 b5 bQ bR bN
        go_wp2_with fail
        refine HSZ.out.mono ?_
        rintro e W6 ⟨rfl, b6⟩
        go_wp2_with fail
        go_ret
        exact ⟨by simp, bS.trans (b6.mono bS.size)⟩

theorem own : ownKnob Try.prog.godebug = none := by kernel_rfl
theorem laidOut : laidOutB Try.prog = true := by kernel_rfl

set_option maxRecDepth 100000 in
theorem lifted (os : Os) (started : os.Started) (H : Type) (enc : TypeId × Value → H) :
    ReturnsInHanded {} Try.checked os 4 .any (Rows.opAnswersSpec.pre6 enc Try.prog Try.f4 Rows.opAnswersRow.domain false) (Rows.opAnswersSpec.post enc Try.prog Try.f4 false true false false) := by
  refine returnsInHanded_of_change (C := Try.checked) own started (by kernel_rfl) Try.func4
    (ChangeSpec.witness6 (enc := enc) (C := Try.checked) false ⟨#[], #[.agg #[.int .i64 0, .int .i64 0, .slice none 0 0, .int .i64 0], .string ByteArray.empty], []⟩ 8 (by kernel_rfl) (by kernel_rfl) (by kernel_rfl) (by kernel_rfl)) ?_
  intro W base args ds gs before hval0 hW hcnd _
  have hval : ∀ (j : Nat) t v, Try.f4.params[j]? = some t → args[j]? = some v → Value.okWide Try.prog W .any base t v := hval0
  have hW' := hW
  obtain ⟨p, q, hA0, hV, rfl, hfz, hnd⟩ := hW
  have hA : DataW.TrodAll enc Try.prog W 0 (fun _ => true) true Try.f4.params.toList args.toList ds p := hA0
  rw [Try.params4] at hA hval
  obtain ⟨v0, vs0, d0, ds0, p0, q0, hargs, rfl, rfl, h0, r0⟩ := trodAll_cons hA
  obtain ⟨v1, vs1, d1, ds1, p1, q1, rfl, rfl, rfl, h1, r1⟩ := trodAll_cons r0
  obtain ⟨rfl, rfl, rfl⟩ := trodAll_nil r1
  obtain rfl : args = #[v0, v1] := by cases args; simp_all
  obtain ⟨rfl, rfl⟩ := trodVars_none hV
  have k0 := h0
  have lt0 : ∀ x ∈ p0, x.block < W.heap.size := by obtain ⟨m, hm⟩ := k0; exact DataW.trod_lt m _ _ _ hm
  obtain ⟨z0, w0⟩ := rt_of (hval 0 36 v0 rfl rfl) h0
  obtain ⟨a1, rfl, rfl, rfl, w1⟩ := open_string Try.underlying9 (hval 1 9 v1 rfl rfl) h1
  clear hA0 hval0
  refine (walk v0 z0 a1 W w0 w1).mono fun e W' ⟨he, bel⟩ => ?_
  subst he
  exact ⟨_, rfl, _, _, _, [], _, [], hW', trodAll_mk1 (shut_bool Try.underlying4 _), (trodAll_cons_mk (Below.trod laidOut (by kernel_rfl) (of_decide_eq_true (by kernel_rfl)) k0 bel lt0) (trodAll_cons_mk (shut_string Try.underlying9 w1) trodAll_mk0)), rfl, bel.frame _, fun h => by cases h⟩

theorem over : Rows.opAnswersRow.holds Try.pinned (OpenSpec.ofChange Rows.opAnswersSpec) :=
  OpenClaim.holds_of_wide 4 Try.f4 rfl rfl rfl rfl rfl rfl rfl ⟨rfl, rfl, rfl, rfl, rfl⟩ rfl rfl rfl rfl rfl (by kernel_rfl) Try.func4 (by kernel_rfl)
    (of_decide_eq_true (by kernel_rfl)) (by unfold Func.isWrapper; first | (rw [if_pos (by decide +kernel)]; kernel_rfl) | (rw [if_neg (by decide +kernel)]; exact ⟨rfl, rfl⟩))
    (fun os started H enc _ => lifted os started H enc)

theorem proved : Rows.OpAnswersSaid := over
end Go.Proofs.Ytkdbkbfloiponaa.opAnswers
