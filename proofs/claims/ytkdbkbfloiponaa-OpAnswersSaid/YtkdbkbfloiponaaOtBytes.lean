/- Bytes of a result. No conditions beyond those in each statement. -/
import Derived.Test.YtkdbkbfloiponaaOtBase
namespace Go.Proofs.Ytkdbkbfloiponaa
open Go.RowKit
set_option linter.unusedVariables false
set_option linter.unusedSimpArgs false
set_option maxRecDepth 100000

def encT (o : Ot) : List UInt8 := textE o.path.data.toList ++ numE o.ver
def headR (c : Rt) : List UInt8 := numsE [c.e, c.at_, c.when_, (c.outs.length : Int)]
def encR (c : Rt) : List UInt8 := headR c ++ c.outs.flatMap encT
theorem encT_len (o : Ot) : (encT o).length ≤ 65543 := by
  have := textE_length o.path.data.toList
  unfold encT; rw [List.length_append, numE_length]; omega
theorem encTs_len : ∀ L : List Ot, (L.flatMap encT).length ≤ 65543 * L.length
  | [] => by simp
  | z :: l => by
    have h1 := encTs_len l
    have h2 := encT_len z
    rw [List.flatMap_cons, List.length_append, List.length_cons]; omega
theorem encTs_snoc (L : List Ot) (k : Nat) (h : k < L.length) : (L.take (k + 1)).flatMap encT = (L.take k).flatMap encT ++ encT (L.getD k Ot.zero) := by
  rw [take_snoc_getD L Ot.zero k h, List.flatMap_append]; simp
theorem getD_four (a b c d : Int) (P : Int → Prop) (ha : P a) (hb : P b) (hc : P c) (hd : P d) : ∀ j, j < [a, b, c, d].length → P ([a, b, c, d].getD j 0) := fun j hj => by
  match j, hj with
  | 0, _ => exact ha
  | 1, _ => exact hb
  | 2, _ => exact hc
  | 3, _ => exact hd
theorem Bs.app {w : World} {B n m : Nat} {v : Value} {l k : List UInt8} (h : w.ownsRow B 5 1 v (n + m) (cellsOf l ++ cellsOf k)) (h1 : n = l.length) (h2 : m = k.length) : Bs w B v (l ++ k) := by
  unfold Bs; rw [cellsOf_append, List.length_append, ← h1, ← h2]; exact h
set_option maxHeartbeats 8000000 in
theorem rbytes_any (u : Value) (c : Rt) (w : World) (hok : c.Ok) (h : OtsR w u c.outs) (hL : c.outs.length ≤ 1000) :
    Calls Try.prog 15 #[rtV u c] w fun e w' => e = .returned (.string ⟨(encR c).toArray⟩) ∧ Below w.heap.size w w' := by
  obtain ⟨i1, hi1, hz1, hz2, hz3⟩ := info_parts info_u8
  obtain ⟨a, cap, rfl⟩ := (show ∃ a cap, u = .slice a c.outs.length cap by obtain ⟨a, cap, h1, _⟩ := h; exact ⟨a, cap, h1⟩)
  have HO := Lib.hid h
  obtain ⟨k1, k2, k3⟩ := hok
  unfold InR at k1 k2 k3
  have HHE : Hid (headR c = numsE [c.e, c.at_, c.when_, (c.outs.length : Int)]) := Lib.hid rfl
  have HER : Hid (encR c = headR c ++ c.outs.flatMap encT) := Lib.hid rfl
  have hH0l : (headR c).length = 24 := by unfold headR; rw [numsE_length]; rfl
  show Calls _ _ #[.agg #[.int .i64 c.e, .int .i64 c.at_, .slice a c.outs.length cap, .int .i64 c.when_]] w _
  have bA := (Below.refl w.heap.size w).alloc (Nat.le_refl _) (.cells #[.int .i64 c.e, .int .i64 c.at_, .slice a c.outs.length cap, .int .i64 c.when_] 36)
  have N1 : RtB (w.alloc (.cells #[.int .i64 c.e, .int .i64 c.at_, .slice a c.outs.length cap, .int .i64 c.when_] 36)) w.heap.size (.slice a c.outs.length cap) c := RtB.new w _ _
  clear h
  go_enter Try.func15, Try.ntmps15
  go_upto_region 1 with fail
  obtain ⟨w1, hw1⟩ : ∃ w1, w1 = w.alloc (.cells #[.int .i64 c.e, .int .i64 c.at_, .slice a c.outs.length cap, .int .i64 c.when_] 36) := ⟨_, rfl⟩
  rw [← hw1] at bA N1 ⊢
  obtain ⟨⟨c0, c1, c2, c3⟩, _⟩ := N1.cells
  have hwl : w.heap.size < w1.heap.size := N1.lt
  have bN := (Below.refl _ w1).alloc (Nat.le_refl _) (.cells #[.int .i64 c.e, .int .i64 c.at_, .int .i64 c.when_, .int .i64 (c.outs.length : Int)] 3)
  have HNM := Lib.hid (num_list (.slice none 0 0) [] w1.heap.size 0 4 [c.e, c.at_, c.when_, (c.outs.length : Int)] (w1.alloc (.cells #[.int .i64 c.e, .int .i64 c.at_, .int .i64 c.when_, .int .i64 (c.outs.length : Int)] 3)) (Src.nil _) (by simp) (by simp)
    (getD_four _ _ _ _ (fun z => -9223372036854775808 ≤ z ∧ z ≤ 9223372036854775807) k1 k2 k3 (by omega))
    (fun j hj => cells_new (by match j, hj with
      | 0, _ => rfl
      | 1, _ => rfl
      | 2, _ => rfl
      | 3, _ => rfl)))
  have HN1 := Lib.hid N1
  clear hw1 N1
  go_wp2_with fail
  refine HNM.out.mono ?_
  rintro e w2 ⟨v2, rfl, B2, b2⟩
  rw [List.nil_append, ← HHE.out] at B2
  have b12 := bN.trans (b2.mono bN.size)
  have bB := bA.trans (b12.mono bA.size)
  have N2 := HN1.out.below b12
  have B2' : Bs w2 (w.heap.size + 1) v2 (headR c ++ (c.outs.take 0).flatMap encT) := by
    have h := B2.mono (C := w.heap.size + 1) (by simp; omega)
    simpa using h
  clear c0 c1 c2 c3 HNM B2 b2 bN b12 HN1
  obtain ⟨⟨c0, c1, c2, c3⟩, _⟩ := N2.cells
  have hl2 : w.heap.size + 1 ≤ w2.heap.size := N2.lt
  have HBB := Lib.hid bB
  clear N2 bB bA
  go_wp2_with fail
  go_loopw [3, 20] (fun ov iv wr => ∃ j : Nat, j ≤ c.outs.length ∧ iv = .int .i64 j ∧ Bs wr (w.heap.size + 1) ov (headR c ++ (c.outs.take j).flatMap encT) ∧ Below w.heap.size w wr ∧ w.heap.size + 1 ≤ wr.heap.size) (fun _ iv _ => c.outs.length - (intOf iv).toNat)
  case atStart => exact ⟨0, Nat.zero_le _, rfl, B2', HBB.out, hl2⟩
  case round =>
    obtain ⟨j, hj, rfl, HBS, hb, hbl⟩ := hrel
    clear B2'
    by_cases hlt : j < c.outs.length
    · obtain ⟨hok, g, off, rfl, h0, h1⟩ := HO.out.at hb hlt
      have HSN := Lib.hid (encTs_snoc c.outs j hlt)
      have hEL := encTs_len (c.outs.take j)
      rw [List.length_take] at hEL
      have t2 : IntKind.i64.wrap ((j : Int) + 1) = (j : Int) + 1 := IntWalk.i64_in _ (by omega)
      obtain ⟨z, hz⟩ : ∃ z, z = c.outs.getD j Ot.zero := ⟨_, rfl⟩
      rw [← hz] at hok h0 h1 HSN
      obtain ⟨zp, zv⟩ := z
      obtain ⟨o1, o2⟩ := hok
      unfold InR at o2
      simp only at h0 h1 o1 o2
      have HEO := Lib.hid (show encT ⟨zp, zv⟩ = textE zp.data.toList ++ numE zv from rfl)
      have hj0 : (0 : Int) ≤ (j : Int) := by omega
      have hji : (j : Int) < (c.outs.length : Int) := by omega
      obtain ⟨E0, hE0⟩ : ∃ E0, E0 = headR c ++ (c.outs.take j).flatMap encT := ⟨_, rfl⟩
      have hE0l : E0.length ≤ 100000000 := by rw [hE0, List.length_append]; omega
      have hE00 : 0 < E0.length := by rw [hE0, List.length_append]; omega
      rw [← hE0] at HBS
      have HE0 := Lib.hid hE0
      obtain ⟨g5, c5, hv5, _⟩ := HBS.cut hE00
      subst hv5
      have hg5 := HBS.lt g5 rfl
      clear hz hE0 hEL
      have bD := hb.alloc hb.size (.cells #[.string zp, .int .i64 zv] 40)
      have bE := (Below.refl _ wr).alloc (Nat.le_refl _) (.cells #[.string zp, .int .i64 zv] 40)
      have N6 : OtB (wr.alloc (.cells #[.string zp, .int .i64 zv] 40)) wr.heap.size ⟨zp, zv⟩ := OtB.new wr ⟨zp, zv⟩
      have S6 := HBS.below bE
      have hws := hb.size
      go_upto_region 5 with fail
      obtain ⟨w6, hw6⟩ : ∃ w6, w6 = wr.alloc (.cells #[.string zp, .int .i64 zv] 40) := ⟨_, rfl⟩
      obtain ⟨ob, hob⟩ : ∃ ob, ob = wr.heap.size := ⟨_, rfl⟩
      rw [← hw6] at bD N6 S6 ⊢
      rw [← hob] at N6 hws hg5 ⊢
      have HW6 : Hid (w.heap.size + 1 ≤ w6.heap.size) := Lib.hid (by rw [hw6]; simp; omega)
      clear hw6 bE h0 h1 hob HBS
      obtain ⟨x0, x1⟩ := N6.cells
      simp only at x0 x1
      have HTX := Lib.hid (text_one (.slice none 0 0) [] zp w6 (Src.nil _) (by simp) o1)
      have HS6 := Lib.hid S6
      have HN6 := Lib.hid N6
      clear S6 N6
      go_wp2_with fail
      refine HTX.out.mono ?_
      rintro e w7 ⟨v7, rfl, B7, b7⟩
      rw [List.nil_append] at B7
      have S7 := HS6.out.below b7
      have N7 := HN6.out.below b7
      have bE := bD.trans (b7.mono bD.size)
      have bb7 := b7.size
      have hw6b := HW6.out
      have ht7 : 0 < (textE zp.data.toList).length := by unfold textE; simp [be_length]; omega
      have ht7b := textE_length zp.data.toList
      obtain ⟨g7, c7, rfl, hc7⟩ := B7.cut ht7
      obtain ⟨m7, hm7⟩ : ∃ m7, m7 = (textE zp.data.toList).length := ⟨_, rfl⟩
      rw [← hm7] at ht7b ⊢
      have HS7 := Lib.hid S7
      have HC7 := Lib.hid hc7
      have HM7 := Lib.hid hm7
      have HN7 := Lib.hid N7
      have hwb : w.heap.size + 1 ≤ w7.heap.size := by have := bb7; omega
      have hob7 : ob < w7.heap.size := N7.lt
      clear HTX B7 b7 bD S7 N7 HS6 HN6 x0 x1 hc7 hm7 ht7
      go_upto_region 6 with (at_builtin; refine wpList_append_own _ rfl _ _ _ rfl (w.heap.size + 1) 5 i1 _ 1 1 und_bytes hi1 hz1 hz2 hz3 rfl (by decide) (.slice (some ⟨g5, 0, none⟩) E0.length c5) E0.length (cellsOf E0) rfl HS7.out ⟨g7, 0, none⟩ m7 c7 (cellsOf (textE zp.data.toList)) rfl (by rw [cellsOf_length, HM7.out]; omega) HC7.out (cellsOf_one _) (by unfold maxLen; omega) (by omega) hwb ?_; intro v8 w8 hown8 hgrow8 hiff8; go_frame)
      have B8 : Bs w8 (w.heap.size + 1) v8 (E0 ++ textE zp.data.toList) := Bs.app hown8 rfl HM7.out
      have hgr8s := hgrow8.size
      have N8 := (hgrow8.block ob hob7 (by simp [Value.ownBlock]; omega)).trans HN7.out
      have b8 := bE.grown hgrow8 bE.size (fun q hq => by simp [Value.ownBlock] at hq; omega)
      obtain ⟨x0, x1⟩ := OtB.cells (n := ⟨zp, zv⟩) N8
      simp only at x0 x1
      have hE1l : (E0 ++ textE zp.data.toList).length = E0.length + m7 := by rw [List.length_append, HM7.out]
      obtain ⟨g8, c8, hv8, _⟩ := B8.cut (by omega)
      subst hv8
      have HTX := Lib.hid (num_one (.slice none 0 0) [] zv w8 (Src.nil _) (by simp) o2)
      have hgb8 := B8.lt g8 rfl
      have HB8 := Lib.hid B8
      clear hown8 hgrow8 hiff8 HS7 HC7 bE B8 N8 HN7
      go_wp2_with fail
      refine HTX.out.mono ?_
      rintro e w9 ⟨v9, rfl, B9, b9⟩
      rw [List.nil_append] at B9
      have R9 := HB8.out.below b9
      have bC := b8.trans (b9.mono b8.size)
      obtain ⟨g9, c9, rfl, hc9⟩ := B9.cut (by rw [numE_length]; decide)
      rw [numE_length]
      have HR9 := Lib.hid R9
      have HC9 := Lib.hid hc9
      have hwb9 : w.heap.size + 1 ≤ w9.heap.size := by have := b9.size; have := hgr8s; omega
      have hE00' := hE00
      clear HTX B9 b9 b8 R9 HB8 hc9 x0 x1
      rw [hE1l]
      go_wp2_with (at_builtin; refine wpList_append_own _ rfl _ _ _ rfl (w.heap.size + 1) 5 i1 _ 1 1 und_bytes hi1 hz1 hz2 hz3 rfl (by decide) (.slice (some ⟨g8, 0, none⟩) (E0.length + m7) c8) (E0.length + m7) (cellsOf (E0 ++ textE zp.data.toList)) rfl (by have := HR9.out; unfold Bs at this; rw [hE1l] at this; exact this) ⟨g9, 0, none⟩ 6 c9 (cellsOf (numE zv)) rfl (by rw [cellsOf_length, numE_length]) HC9.out (cellsOf_one _) (by unfold maxLen; omega) (by omega) hwb9 ?_; intro v10 w10 hown10 hgrow10 hiff10; go_frame)
      have B10 : Bs w10 (w.heap.size + 1) v10 ((E0 ++ textE zp.data.toList) ++ numE zv) := Bs.app hown10 hE1l.symm (by rw [numE_length])
      have b10 := bC.grown hgrow10 bC.size (fun q hq => by simp [Value.ownBlock] at hq; omega)
      have HW10 : Hid (w.heap.size + 1 ≤ w10.heap.size) := Lib.hid (Nat.le_trans hwb9 hgrow10.size)
      have HB10 : Hid (Bs w10 (w.heap.size + 1) v10 (headR c ++ (c.outs.take (j + 1)).flatMap encT)) := Lib.hid (B10.mk (by rw [HSN.out, HEO.out, HE0.out]; simp only [List.append_assoc]))
      clear hown10 hgrow10 hiff10 HR9 HC9 bC B10
      go_wp2_with fail
      go_roundw
      case rel => exact ⟨j + 1, by omega, by go_num, HB10.out, b10, HW10.out⟩
      case measure => simp [intOf]; omega
    · obtain rfl : j = c.outs.length := by omega
      rw [List.take_length, ← HER.out] at HBS
      have hlt2 : decide ((c.outs.length : Int) < (c.outs.length : Int)) = false := by simp
      have hE0 : 0 < (encR c).length := by rw [HER.out, List.length_append]; omega
      have hstr := run_str HBS.src
      obtain ⟨g6, cp6, rfl, _⟩ := HBS.cut hE0
      have bZ := hb
      clear HBS
      go_wp2_with fail
      go_ret
      exact ⟨rfl, bZ⟩
end Go.Proofs.Ytkdbkbfloiponaa
