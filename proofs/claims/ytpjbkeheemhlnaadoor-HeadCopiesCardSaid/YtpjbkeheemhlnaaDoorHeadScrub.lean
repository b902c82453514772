/- head.Scrub: what it answers and leaves; no conditions beyond those in each statement. -/
import Derived.Test.YtpjbkeheemhlnaaDoorHeadPut
namespace Go.Proofs.YtpjbkeheemhlnaaDoor
open Go.RowKit
set_option linter.unusedVariables false
set_option maxRecDepth 100000

open Classical in
/-- What Scrub answers: the error, the device, and what the store keeps. -/
noncomputable def Dv.scrub (D : Dv) (L : Rc) : Int × Dv × Rc :=
  if (D.sread 0).2.2 ≠ 0 then ((D.sread 0).2.2, D, L) else if (D.sread 1).2.2 ≠ 0 then ((D.sread 1).2.2, D, L)
  else if L = rc0 ∨ ((D.sread 0).1 = L ∧ (D.sread 1).1 = L) then (0, D, L)
  else if (D.sread 0).1 = L then ((D.two 1 (copyR (headL L) (L.index + 1))).1, (D.two 1 (copyR (headL L) (L.index + 1))).2, lastL (D.two 1 (copyR (headL L) (L.index + 1))).1 (copyR (headL L) (L.index + 1)) L)
  else ((D.two 0 (copyR (headL L) (L.index + 1))).1, (D.two 0 (copyR (headL L) (L.index + 1))).2, lastL (D.two 0 (copyR (headL L) (L.index + 1))).1 (copyR (headL L) (L.index + 1)) L)
theorem scrub_e0 {D : Dv} {L : Rc} (h : (D.sread 0).2.2 ≠ 0) : D.scrub L = ((D.sread 0).2.2, D, L) := by unfold Dv.scrub; rw [if_pos h]
theorem scrub_e1 {D : Dv} {L : Rc} (h0 : (D.sread 0).2.2 = 0) (h : (D.sread 1).2.2 ≠ 0) : D.scrub L = ((D.sread 1).2.2, D, L) := by unfold Dv.scrub; rw [if_neg (by simp [h0]), if_pos h]
theorem scrub_same {D : Dv} {L : Rc} (h0 : (D.sread 0).2.2 = 0) (h1 : (D.sread 1).2.2 = 0) (h : L = rc0 ∨ ((D.sread 0).1 = L ∧ (D.sread 1).1 = L)) : D.scrub L = (0, D, L) := by unfold Dv.scrub; rw [if_neg (by simp [h0]), if_neg (by simp [h1]), if_pos h]
theorem scrub_one {D : Dv} {L : Rc} (h0 : (D.sread 0).2.2 = 0) (h1 : (D.sread 1).2.2 = 0) (h : ¬ (L = rc0 ∨ ((D.sread 0).1 = L ∧ (D.sread 1).1 = L))) (hr : (D.sread 0).1 = L) :
    D.scrub L = ((D.two 1 (copyR (headL L) (L.index + 1))).1, (D.two 1 (copyR (headL L) (L.index + 1))).2, lastL (D.two 1 (copyR (headL L) (L.index + 1))).1 (copyR (headL L) (L.index + 1)) L) := by unfold Dv.scrub; rw [if_neg (by simp [h0]), if_neg (by simp [h1]), if_neg h, if_pos hr]
theorem scrub_zero {D : Dv} {L : Rc} (h0 : (D.sread 0).2.2 = 0) (h1 : (D.sread 1).2.2 = 0) (h : ¬ (L = rc0 ∨ ((D.sread 0).1 = L ∧ (D.sread 1).1 = L))) (hr : ¬ (D.sread 0).1 = L) :
    D.scrub L = ((D.two 0 (copyR (headL L) (L.index + 1))).1, (D.two 0 (copyR (headL L) (L.index + 1))).2, lastL (D.two 0 (copyR (headL L) (L.index + 1))).1 (copyR (headL L) (L.index + 1)) L) := by unfold Dv.scrub; rw [if_neg (by simp [h0]), if_neg (by simp [h1]), if_neg h, if_neg hr]

/-- Two truths in an array. -/
def BrB (w : World) (b : Nat) (x y : Bool) : Prop := w.heap[b]? = some (.cells #[.bool x, .bool y] 99 (0, 0))
theorem BrB.lt {w : World} {b : Nat} {x y : Bool} (h : BrB w b x y) : b < w.heap.size := lt_of_block h
theorem BrB.below {w w' : World} {b : Nat} {x y : Bool} (h : BrB w b x y) (k : Below w.heap.size w w') : BrB w' b x y := (k.block b h.lt).trans h
theorem BrB.new (w : World) (x y : Bool) : BrB (w.alloc (.cells #[.bool x, .bool y] 99)) w.heap.size x y := heap_alloc_new w _
theorem BrB.set0 {w : World} {b : Nat} {x y : Bool} (h : BrB w b x y) (z : Bool) : BrB (w.setCell ⟨b, 0, none⟩ (.bool z)) b z y := block_setCell (i := 0) h
theorem BrB.set1 {w : World} {b : Nat} {x y : Bool} (h : BrB w b x y) (z : Bool) : BrB (w.setCell ⟨b, 1, none⟩ (.bool z)) b x z := block_setCell (i := 1) h
theorem BrB.at {w : World} {b : Nat} {x y : Bool} (h : BrB w b x y) (k : Nat) (hk : k < 2) (z : Bool) :
    ∃ x' y' : Bool, BrB (w.setCell ⟨b, k, none⟩ (.bool z)) b x' y' ∧ (k = 0 → x' = z) ∧ (k = 1 → x' = x ∧ y' = z) ∧ (w.cell? ⟨b, k, none⟩ = some (.bool (if k = 0 then x else y))) ∧ w.frozen? ⟨b, k, none⟩ = false := by
  obtain rfl | rfl : k = 0 ∨ k = 1 := by omega
  · exact ⟨z, y, h.set0 z, fun _ => rfl, fun e => by omega, cell_of h rfl, free_of h⟩
  · exact ⟨x, z, h.set1 z, fun e => by omega, fun _ => ⟨rfl, rfl⟩, cell_of h rfl, free_of h⟩

set_option maxHeartbeats 4000000 in
theorem hscrub_any {n : Nat} {E : Nat → Prop} {w : World} {B : Nat} {D : Dv} (b : Nat) (L : Rc) (hW : DevW n E w B D) (hs : StB w b B L) (hE : E b) (hn : n ≤ w.heap.size) (hnb : n ≤ b)
    (hT : ∀ x, Below n w x → Tabs x) (hw : D.writes ≤ 1073741822) (hv : L = rc0 ∨ (headL L).Ok) (hL : -1 ≤ L.index ∧ L.index ≤ 281474976710654) (hls : L.data.size ≤ 140737488355328) :
    Calls Tryd.prog 22 #[.pointer (some ⟨b, 0, none⟩)] w fun e w' => e = .returned (.int .i64 (D.scrub L).1) ∧ DevW n E w' B (D.scrub L).2.1 ∧ Below n w w' ∧
      StB w' b B (D.scrub L).2.2 ∧ Kept (fun k => E k ∧ k ≠ b) w w' := by
  obtain ⟨V, hV⟩ : ∃ V, V = D.scrub L := ⟨_, rfl⟩
  rw [← hV]
  have HVD := Lib.hid hV
  have HW := Lib.hid hW
  have HSB := Lib.hid hs
  have HTT := Lib.hid hT
  have HOK := Lib.hid hv
  have HLI := Lib.hid hL
  have hnE := hE
  have HSR := Lib.hid (fun (i : Nat) (W : World) (hb : Below w.heap.size w W) => devw_sread (i : Int) (hT _ (hb.mono hn)) (Nat.le_trans hw (by decide)) (hW.below hb))
  have hblt := hs.lt
  have a0 := BrB.new w false false
  have b0 := (Below.refl _ w).alloc (Nat.le_refl _) (.cells #[.bool false, .bool false] 99)
  clear hV hW hs hT hv hL
  obtain ⟨w1, hw1⟩ : ∃ w1, w1 = w.alloc (.cells #[.bool false, .bool false] 99) := ⟨_, rfl⟩
  rw [← hw1] at a0 b0
  go_enter Tryd.func22, Tryd.ntmps22
  go_wp2_with fail
  rw [← hw1]
  clear hw1
  go_loopw [11] (fun i wr => ∃ (k : Nat) (x y : Bool), k ≤ 2 ∧ i = .int .i64 k ∧ BrB wr w.heap.size x y ∧ Below w.heap.size w wr ∧ Hid ((k ≠ 0 → (D.sread 0).2.2 = 0 ∧ (x = true ↔ (D.sread 0).1 = L)) ∧ (k = 2 → (D.sread 1).2.2 = 0 ∧ (y = true ↔ (D.sread 1).1 = L)))) (fun i _ => 2 - (intOf i).toNat)
  case atStart => exact ⟨0, false, false, by omega, rfl, a0, b0, ⟨fun h => (h rfl).elim, fun h => by omega⟩⟩
  case round =>
    obtain ⟨k, x, y, hk, rfl, ak, bk, HK⟩ := hrel
    clear a0 b0
    by_cases hlt : k < 2
    · have HSR1 := Lib.hid (HSR.out k wr bk)
      have HE : Hid ((D.sread (k : Int)).2.2 ≠ 0 → V = ((D.sread (k : Int)).2.2, D, L)) := fun hne => by
        rw [HVD.out]
        obtain rfl | rfl : k = 0 ∨ k = 1 := by omega
        · exact scrub_e0 hne
        · exact scrub_e1 (HK.out.1 (by decide)).1 hne
      have HK2 : Hid (∀ x' y' z : Bool, (k = 0 → x' = z) → (k = 1 → x' = x ∧ y' = z) → (z = true ↔ (D.sread (k : Int)).1 = L) → (D.sread (k : Int)).2.2 = 0 → Hid ((k + 1 ≠ 0 → (D.sread 0).2.2 = 0 ∧ (x' = true ↔ (D.sread 0).1 = L)) ∧ (k + 1 = 2 → (D.sread 1).2.2 = 0 ∧ (y' = true ↔ (D.sread 1).1 = L)))) := fun x' y' z h0 h1 hz he => by
        obtain rfl | rfl : k = 0 ∨ k = 1 := by omega
        · obtain rfl := h0 rfl
          exact ⟨fun _ => ⟨he, hz⟩, fun h => by omega⟩
        · obtain ⟨rfl, rfl⟩ := h1 rfl
          exact ⟨fun _ => HK.out.1 (by decide), fun _ => ⟨he, hz⟩⟩
      clear HK
      generalize D.sread (k : Int) = X at HSR1 HE HK2
      obtain ⟨r, st, er⟩ := X
      simp only at HE HK2
      unfold sreadV recV at HSR1
      simp only at HSR1
      have Sk := HSB.out.below bk
      obtain ⟨⟨t0, t1, t2, t3, t4⟩, f1, f2, f3, f4⟩ := Sk.cells
      go_wp2_with fail
      refine HSR1.out.mono ?_
      rintro e w2 ⟨rfl, hb2⟩
      have b3 := (Below.refl w2.heap.size w2).alloc (Nat.le_refl _) (.cells #[.int .i64 r.kind, .int .i64 r.index, .int .i64 r.term, .string r.data] 38)
      have N3 := RecB.new w2 r
      have a3 := (ak.below hb2).below b3
      have B3 := (bk.trans (hb2.mono bk.size)).trans (b3.mono (bk.trans (hb2.mono bk.size)).size)
      have hlt2 : w.heap.size < w2.heap.size := (ak.below hb2).lt
      clear HSR1 hb2 ak b3 Sk t0 t1 t2 t3 t4 f1 f2 f3 f4
      by_cases he : er = 0
      · subst he
        obtain ⟨z, hz⟩ : ∃ z : Bool, z = true ↔ r = L := by
          by_cases h : r = L
          · exact ⟨true, by simp [h]⟩
          · exact ⟨false, by simp [h]⟩
        obtain ⟨x', y', hset, hx', hy', hc, hf⟩ := BrB.at a3 k hlt z
        have hlt' : (k : Int) < 2 := by omega
        have HY := Lib.hid (HK2.out x' y' z hx' hy' hz rfl)
        have heq := eq_rec r L z hz
        unfold recV at heq
        clear HK2 HE
        have S3 := HSB.out.below B3
        obtain ⟨⟨n0, n1, n2, n3⟩, _⟩ := N3.cells
        obtain ⟨⟨t0, t1, t2, t3, t4⟩, f1, f2, f3, f4⟩ := S3.cells
        have B4 := B3.setCell (p := ⟨w.heap.size, k, none⟩) (Nat.le_refl _) (.bool z)
        clear hx' hy' hz
        generalize hw4 : w2.alloc (.cells #[.int .i64 r.kind, .int .i64 r.index, .int .i64 r.term, .string r.data] 38) = w4 at *
        have u1 : ¬ w.heap.size = w2.heap.size := Nat.ne_of_lt hlt2
        have u2 : ¬ w2.heap.size = w.heap.size := Nat.ne_of_gt hlt2
        have u3 : ¬ b = w.heap.size := Nat.ne_of_lt hblt
        have u4 : ¬ w.heap.size = b := Nat.ne_of_gt hblt
        go_wp2_with fail
        go_region_held3 (fun w' => w'.cell? ⟨w2.heap.size, 0, none⟩ = some (.int .i64 r.kind) ∧ w'.cell? ⟨w2.heap.size, 1, none⟩ = some (.int .i64 r.index) ∧ w'.cell? ⟨w2.heap.size, 2, none⟩ = some (.int .i64 r.term) ∧ w'.cell? ⟨w2.heap.size, 3, none⟩ = some (.string r.data) ∧ w'.cell? ⟨b, 1, none⟩ = some (.int .i64 L.kind) ∧ w'.cell? ⟨b, 2, none⟩ = some (.int .i64 L.index) ∧ w'.cell? ⟨b, 3, none⟩ = some (.int .i64 L.term) ∧ w'.cell? ⟨b, 4, none⟩ = some (.string L.data)) (first | (with_reducible assumption) | go_keep) (fail)
        go_wp2_with fail
        go_roundw
        case rel => exact ⟨k + 1, x', y', by omega, by go_num, hset, B4.drew, HY.out⟩
        case measure => simp [intOf]; omega
      · have e1 : (er == 0) = false := by simpa using he
        have HV := Lib.hid (HE.out he)
        have S3 := HSB.out.below B3
        have X3 := HW.out.below B3
        have K3 : Kept E w _ := fun k hk => B3.block k (HW.out.lt k hk)
        clear HE HK2
        go_wp2_with fail
        go_ret
        exact ⟨by rw [HV.out]; rfl, by rw [HV.out]; exact X3, B3.mono hn, by rw [HV.out]; exact S3, K3.mono (fun k hk => hk.1)⟩
    · obtain rfl : k = 2 := by omega
      have HR0 := Lib.hid (HK.out.1 (by decide)).1
      have HR1 := Lib.hid (HK.out.2 rfl).1
      have hx := (HK.out.1 (by decide)).2
      have hy := (HK.out.2 rfl).2
      have Sk := HSB.out.below bk
      have Xk := HW.out.below bk
      have Kk : Kept E w wr := fun k hk => bk.block k (HW.out.lt k hk)
      have hnw : n ≤ wr.heap.size := Nat.le_trans hn bk.size
      have c0 : wr.cell? ⟨w.heap.size, 0, none⟩ = some (.bool x) := cell_of ak rfl
      have c1 : wr.cell? ⟨w.heap.size, 1, none⟩ = some (.bool y) := cell_of ak rfl
      clear HSR HK
      by_cases hL0 : L = rc0
      · have HV := Lib.hid (show V = (0, D, L) by rw [HVD.out]; exact scrub_same HR0.out HR1.out (.inl hL0))
        have HFR := Lib.hid (fresh_any b B L wr Sk true (by simpa using hL0))
        clear hx hy HVD HR0 HR1
        go_wp2_with (go_at_call 49; refine HFR.out.mono ?_; rintro e w' ⟨rfl, rfl⟩)
        go_ret
        exact ⟨by rw [HV.out]; rfl, by rw [HV.out]; exact Xk, bk.mono hn, by rw [HV.out]; exact Sk, Kk.mono (fun k hk => hk.1)⟩
      · cases x with
        | true =>
          cases y with
          | true =>
            have HV := Lib.hid (show V = (0, D, L) by rw [HVD.out]; exact scrub_same HR0.out HR1.out (.inr ⟨hx.1 rfl, hy.1 rfl⟩))
            have HFR := Lib.hid (fresh_any b B L wr Sk false (by simpa using hL0))
            clear hx hy HVD HR0 HR1
            go_wp2_with (go_at_call 49; refine HFR.out.mono ?_; rintro e w' ⟨rfl, rfl⟩)
            go_ret
            exact ⟨by rw [HV.out]; rfl, by rw [HV.out]; exact Xk, bk.mono hn, by rw [HV.out]; exact Sk, Kk.mono (fun k hk => hk.1)⟩
          | false =>
            have HX := Lib.hid (hx.1 rfl)
            have HNB := Lib.hid (show ¬ (L = rc0 ∨ ((D.sread 0).1 = L ∧ (D.sread 1).1 = L)) from fun h => h.elim hL0 (fun h => by have := hy.2 h.2; simp at this))
            have HV := Lib.hid (HVD.out.trans (scrub_one HR0.out HR1.out HNB.out HX.out))
            have HFR := Lib.hid (fresh_any b B L wr Sk false (by simpa using hL0))
            have HH := Lib.hid (head_any b B L wr Sk hls)
            have HP := Lib.hid (fun (W : World) (hb : Below wr.heap.size wr W) => hput_any (w := W) b 1 L (headL L) (Xk.below hb) (Sk.below hb) hE (Nat.le_trans hnw hb.size) hnb (fun x hx => HTT.out x (((bk.mono hn).trans (hb.mono hnw)).trans hx)) hw (.inr rfl) (HOK.out.resolve_left hL0) HLI.out)
            clear HNB HR0 HR1 hx hy HVD ak Xk Sk
            generalize headL L = hh at *
            generalize copyR hh (L.index + 1) = R at *
            generalize D.two 1 R = T at *
            unfold headV at HH HP
            go_wp2_with (go_at_call 49; refine HFR.out.mono ?_; rintro e w' ⟨rfl, rfl⟩)
            refine HH.out.mono ?_
            rintro e w2 ⟨rfl, hb2⟩
            have HP2 := Lib.hid (HP.out w2 hb2)
            go_wp2_with fail
            refine HP2.out.mono ?_
            rintro e w3 ⟨rfl, X3, B3, S3, K3⟩
            have K2 : Kept E wr w2 := fun k hk => hb2.block k (Nat.lt_of_lt_of_le (HW.out.lt k hk) bk.size)
            go_wp2_with fail
            go_ret
            exact ⟨by rw [HV.out]; rfl, by rw [HV.out]; exact X3, ((bk.mono hn).trans (hb2.mono hnw)).trans B3, by rw [HV.out]; exact S3, ((Kk.trans K2).mono (fun k hk => hk.1)).trans K3⟩
        | false =>
          have HX := Lib.hid (show ¬ (D.sread 0).1 = L from fun h => by have := hx.2 h; simp at this)
          have HNB := Lib.hid (show ¬ (L = rc0 ∨ ((D.sread 0).1 = L ∧ (D.sread 1).1 = L)) from fun h => h.elim hL0 (fun h => HX.out h.1))
          have HV := Lib.hid (HVD.out.trans (scrub_zero HR0.out HR1.out HNB.out HX.out))
          have HFR := Lib.hid (fresh_any b B L wr Sk false (by simpa using hL0))
          have HH := Lib.hid (head_any b B L wr Sk hls)
          have HP := Lib.hid (fun (W : World) (hb : Below wr.heap.size wr W) => hput_any (w := W) b 0 L (headL L) (Xk.below hb) (Sk.below hb) hE (Nat.le_trans hnw hb.size) hnb (fun x hx => HTT.out x (((bk.mono hn).trans (hb.mono hnw)).trans hx)) hw (.inl rfl) (HOK.out.resolve_left hL0) HLI.out)
          clear HNB HR0 HR1 hx hy HVD ak Xk Sk
          generalize headL L = hh at *
          generalize copyR hh (L.index + 1) = R at *
          generalize D.two 0 R = T at *
          unfold headV at HH HP
          go_wp2_with (go_at_call 49; refine HFR.out.mono ?_; rintro e w' ⟨rfl, rfl⟩)
          refine HH.out.mono ?_
          rintro e w2 ⟨rfl, hb2⟩
          have HP2 := Lib.hid (HP.out w2 hb2)
          go_wp2_with fail
          refine HP2.out.mono ?_
          rintro e w3 ⟨rfl, X3, B3, S3, K3⟩
          have K2 : Kept E wr w2 := fun k hk => hb2.block k (Nat.lt_of_lt_of_le (HW.out.lt k hk) bk.size)
          go_wp2_with fail
          go_ret
          exact ⟨by rw [HV.out]; rfl, by rw [HV.out]; exact X3, ((bk.mono hn).trans (hb2.mono hnw)).trans B3, by rw [HV.out]; exact S3, ((Kk.trans K2).mono (fun k hk => hk.1)).trans K3⟩
end Go.Proofs.YtpjbkeheemhlnaaDoor
