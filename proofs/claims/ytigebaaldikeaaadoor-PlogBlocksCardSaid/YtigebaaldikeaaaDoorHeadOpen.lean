/- head.Open: what it answers; no conditions beyond those in each statement. -/
import Derived.Test.YtigebaaldikeaaaDoorHeadOf
import Derived.Test.YtigebaaldikeaaaDoorInvar3
namespace Go.Proofs.YtigebaaldikeaaaDoor
open Go.RowKit
set_option linter.unusedVariables false
set_option maxRecDepth 100000

/-- The record kept when k of the copies have been read. -/
noncomputable def Dv.lk (D : Dv) : Nat → Rc
  | 0 => rc0
  | k + 1 => pick (D.lk k) (D.sread (k : Int)).1
/-- What Open gives back. -/
def OpenV (V : Rc × Int) (B : Nat) (w : World) (e : Ending) (w' : World) : Prop :=
  (V.2 = 0 ∧ ∃ sb, e = .returned (.tuple #[.pointer (some ⟨sb, 0, none⟩), .int .i64 0]) ∧ StB w' sb B V.1 ∧ w.heap.size ≤ sb) ∨ (V.2 ≠ 0 ∧ e = .returned (.tuple #[.pointer none, .int .i64 V.2]))
theorem hopen_e0 {D : Dv} (h : (D.sread 0).2.2 ≠ 0) : D.hopen = (rc0, (D.sread 0).2.2) := by unfold Dv.hopen; rw [if_neg h]
theorem hopen_e1 {D : Dv} (h0 : (D.sread 0).2.2 = 0) (h : (D.sread 1).2.2 ≠ 0) : D.hopen = (rc0, (D.sread 1).2.2) := by unfold Dv.hopen; rw [if_pos h0, if_neg h]
theorem hopen_bad {D : Dv} (h0 : (D.sread 0).2.2 = 0) (h1 : (D.sread 1).2.2 = 0) (hl : D.lk 2 = rc0) (hs : (D.sread 1).2.1 ≠ 0) : D.hopen = (rc0, 6) := by
  unfold Dv.hopen; rw [if_pos h0, if_pos h1]; exact if_pos ⟨hl, hs⟩
theorem hopen_ok {D : Dv} (h0 : (D.sread 0).2.2 = 0) (h1 : (D.sread 1).2.2 = 0) (hl : ¬ (D.lk 2 = rc0 ∧ (D.sread 1).2.1 ≠ 0)) : D.hopen = (D.lk 2, 0) := by
  unfold Dv.hopen; rw [if_pos h0, if_pos h1]; exact if_neg hl

/-- Two numbers in an array. -/
def ArB (w : World) (b : Nat) (x y : Int) : Prop := w.heap[b]? = some (.cells #[.int .i64 x, .int .i64 y] 81 (0, 0))
theorem ArB.lt {w : World} {b : Nat} {x y : Int} (h : ArB w b x y) : b < w.heap.size := lt_of_block h
theorem ArB.below {w w' : World} {b : Nat} {x y : Int} (h : ArB w b x y) (k : Below w.heap.size w w') : ArB w' b x y := (k.block b h.lt).trans h
theorem ArB.new (w : World) (x y : Int) : ArB (w.alloc (.cells #[.int .i64 x, .int .i64 y] 81)) w.heap.size x y := heap_alloc_new w _
theorem ArB.set0 {w : World} {b : Nat} {x y : Int} (h : ArB w b x y) (z : Int) : ArB (w.setCell ⟨b, 0, none⟩ (.int .i64 z)) b z y := block_setCell (i := 0) h
theorem ArB.set1 {w : World} {b : Nat} {x y : Int} (h : ArB w b x y) (z : Int) : ArB (w.setCell ⟨b, 1, none⟩ (.int .i64 z)) b x z := block_setCell (i := 1) h

theorem ArB.at {w : World} {b : Nat} {x y : Int} (h : ArB w b x y) (k : Nat) (hk : k < 2) (z : Int) :
    ∃ x' y' : Int, ArB (w.setCell ⟨b, k, none⟩ (.int .i64 z)) b x' y' ∧ (k = 1 → y' = z) ∧ (w.cell? ⟨b, k, none⟩ = some (.int .i64 (if k = 0 then x else y))) ∧ w.frozen? ⟨b, k, none⟩ = false := by
  obtain rfl | rfl : k = 0 ∨ k = 1 := by omega
  · exact ⟨z, y, h.set0 z, fun e => by omega, cell_of h rfl, free_of h⟩
  · exact ⟨x, z, h.set1 z, fun _ => rfl, cell_of h rfl, free_of h⟩
theorem ArB.other {w : World} {b c : Nat} {x y : Int} {r : Rc} (h : ArB w b x y) (hc : b ≠ c) : ArB (setSt w c r) b x y := (setSt_other hc).trans h
theorem sread_fits {D : Dv} (hf : D.Fits) (i : Int) : (D.sread i).1.data.size ≤ 512 := by
  unfold Dv.sread
  split
  · exact Nat.zero_le _
  · split
    · have hs := read_size hf i
      rcases get_cases (D.read i).1 with ⟨_, h⟩ | ⟨_, h⟩ | ⟨r, hr, _, h⟩
      · rw [h]; exact Nat.zero_le _
      · rw [h]; exact Nat.zero_le _
      · rw [h]; have := hr.data; show r.data.size ≤ 512; omega
    · exact Nat.zero_le _
theorem lk_fits {D : Dv} (hf : D.Fits) (k : Nat) : (D.lk k).data.size ≤ 512 := by
  induction k with
  | zero => exact Nat.zero_le _
  | succ k ih =>
    unfold Dv.lk pick
    split
    · exact sread_fits hf _
    · exact ih

-- BEGIN REG
theorem call_fresh (W : World) (u : Value) : (callFunc 34 #[u]).run Tryd.prog W = .ok (.enter 34 #[u]) W := by go_simp
theorem drew_cell {w : World} {a : Addr} {v : Value} (h : w.cell? a = some v) : w.drew.cell? a = some v := h
theorem run_stf0 (W : World) (b : Nat) : (Instr.fieldAt 80 (.pointer (some ⟨b, 0, none⟩)) 0).run Tryd.prog W = .ok (.pointer (some ⟨b, 0, none⟩)) W := by go_simp
theorem run_stf1 (W : World) (b : Nat) : (Instr.fieldAt 80 (.pointer (some ⟨b, 0, none⟩)) 1).run Tryd.prog W = .ok (.pointer (some ⟨b, 1, none⟩)) W := by go_simp
theorem run_recf1' (W : World) (b : Nat) : (Instr.fieldAt 72 (.pointer (some ⟨b, 1, none⟩)) 1).run Tryd.prog W = .ok (.pointer (some ⟨b, 2, none⟩)) W := by go_simp
theorem run_gtr (W : World) (x y : Int) (B : Bool) (h : decide (y < x) = B) (s1 s2 : Operand) : (do eqGuard .gtr 3 s1 s2 (.int .i64 x) (.int .i64 y); binOp .gtr 3 (.int .i64 x) (.int .i64 y) : Sem Value).run Tryd.prog W = .ok (.bool B) W := by
  go_simp
theorem drew_st {w : World} {b B : Nat} {L : Rc} (h : StB w b B L) : StB w.drew b B L := h
theorem drew_rec {w : World} {b : Nat} {r : Rc} (h : RecB w b r) : RecB w.drew b r := h
theorem drew_ar {w : World} {b : Nat} {x y : Int} (h : ArB w b x y) : ArB w.drew b x y := h
/-- What each operation of the look at a copy leaves: the copy is the first good one; newer; not newer; no copy. -/
def FO1 (n b : Nat) (ri li : Int) : Nat → Value → World → Prop
  | 0, v, _ => v = .bool true
  | 1, v, _ => v = .bool true
  | 2, v, _ => v = .pointer (some ⟨n, 0, none⟩)
  | 3, v, _ => v = .bool true
  | 4, v, _ => v = .bool true
  | 5, v, _ => v = undef
  | 6, v, _ => v = undef
  | 7, v, _ => v = undef
  | 8, v, _ => v = undef
  | 9, v, _ => v = undef
  | 10, v, _ => v = undef
  | 11, v, _ => v = undef
  | 12, v, _ => v = undef
  | 13, v, _ => v = .bool true
  | 14, v, _ => v = .bool true
  | _, _, _ => True
def FO2 (n b : Nat) (ri li : Int) : Nat → Value → World → Prop
  | 0, v, _ => v = .bool true
  | 1, v, _ => v = .bool true
  | 2, v, _ => v = .pointer (some ⟨n, 0, none⟩)
  | 3, v, _ => v = .bool false
  | 4, v, _ => v = .bool false
  | 5, v, _ => v = .pointer (some ⟨b, 1, none⟩)
  | 6, v, _ => v = .int .i64 ri
  | 7, v, _ => v = .pointer (some ⟨n, 0, none⟩)
  | 8, v, _ => v = .pointer (some ⟨n, 0, none⟩)
  | 9, v, _ => v = .pointer (some ⟨n, 1, none⟩)
  | 10, v, _ => v = .pointer (some ⟨n, 2, none⟩)
  | 11, v, _ => v = .int .i64 li
  | 12, v, _ => v = .bool true
  | 13, v, _ => v = .bool true
  | 14, v, _ => v = .bool true
  | _, _, _ => True
def FO3 (n b : Nat) (ri li : Int) : Nat → Value → World → Prop
  | 0, v, _ => v = .bool true
  | 1, v, _ => v = .bool true
  | 2, v, _ => v = .pointer (some ⟨n, 0, none⟩)
  | 3, v, _ => v = .bool false
  | 4, v, _ => v = .bool false
  | 5, v, _ => v = .pointer (some ⟨b, 1, none⟩)
  | 6, v, _ => v = .int .i64 ri
  | 7, v, _ => v = .pointer (some ⟨n, 0, none⟩)
  | 8, v, _ => v = .pointer (some ⟨n, 0, none⟩)
  | 9, v, _ => v = .pointer (some ⟨n, 1, none⟩)
  | 10, v, _ => v = .pointer (some ⟨n, 2, none⟩)
  | 11, v, _ => v = .int .i64 li
  | 12, v, _ => v = .bool false
  | 13, v, _ => v = .bool false
  | 14, v, _ => v = .bool false
  | _, _, _ => True
def FO4 (n b : Nat) (ri li : Int) : Nat → Value → World → Prop
  | 0, v, _ => v = .bool false
  | 1, v, _ => v = .bool false
  | 2, v, _ => v = undef
  | 3, v, _ => v = undef
  | 4, v, _ => v = undef
  | 5, v, _ => v = undef
  | 6, v, _ => v = undef
  | 7, v, _ => v = undef
  | 8, v, _ => v = undef
  | 9, v, _ => v = undef
  | 10, v, _ => v = undef
  | 11, v, _ => v = undef
  | 12, v, _ => v = undef
  | 13, v, _ => v = undef
  | 14, v, _ => v = .bool false
  | _, _, _ => True
-- END REG
set_option maxHeartbeats 8000000 in
theorem hopen_any {n : Nat} {E : Nat → Prop} {w : World} {B : Nat} {D : Dv} (h : DevW n E w B D) (ht : Tabs w) (hw : D.writes ≤ 1073741824) :
    Calls Tryd.prog 10 #[.pointer (some ⟨B, 0, none⟩)] w fun e w' => OpenV D.hopen B w e w' ∧ Below w.heap.size w w' := by
  have HF := Lib.hid h.fits
  obtain ⟨V, hV⟩ : ∃ V, V = D.hopen := ⟨_, rfl⟩
  rw [← hV]
  have HVD := Lib.hid hV
  clear hV
  have HSR := Lib.hid (fun (i : Nat) (W : World) (hb : Below w.heap.size w W) => devw_sread (i : Int) (ht.below hb) hw (h.below hb))
  have s0 := StB.new w B rc0
  have b0 := (Below.refl _ w).alloc (Nat.le_refl _) (.cells #[.pointer (some ⟨B, 0, none⟩), .int .i64 rc0.kind, .int .i64 rc0.index, .int .i64 rc0.term, .string rc0.data] 80)
  have b1 := (Below.refl (w.alloc (.cells #[.pointer (some ⟨B, 0, none⟩), .int .i64 rc0.kind, .int .i64 rc0.index, .int .i64 rc0.term, .string rc0.data] 80)).heap.size _).alloc (Nat.le_refl _) (.cells #[.int .i64 0, .int .i64 0] 81)
  have s1 := s0.below b1
  have a1 := ArB.new (w.alloc (.cells #[.pointer (some ⟨B, 0, none⟩), .int .i64 rc0.kind, .int .i64 rc0.index, .int .i64 rc0.term, .string rc0.data] 80)) 0 0
  rw [World.size_alloc] at a1
  have B1 := b0.trans (b1.mono b0.size)
  unfold rc0 at s0 b0 b1 s1 a1 B1
  simp only at s0 b0 b1 s1 a1 B1
  clear s0 b0 b1 h ht
  obtain ⟨w1, hw1⟩ : ∃ w1, w1 = (w.alloc (.cells #[.pointer (some ⟨B, 0, none⟩), .int .i64 0, .int .i64 0, .int .i64 0, .string ⟨#[]⟩] 80)).alloc (.cells #[.int .i64 0, .int .i64 0] 81) := ⟨_, rfl⟩
  rw [← hw1] at s1 a1 B1
  go_enter Tryd.func10, Tryd.ntmps10
  go_wp2_with fail
  rw [← hw1]
  clear hw1
  go_loopw [16] (fun i wr => ∃ (k : Nat) (x y : Int), k ≤ 2 ∧ i = .int .i64 k ∧ StB wr w.heap.size B (D.lk k) ∧ ArB wr (w.heap.size + 1) x y ∧ Below w.heap.size w wr ∧ Hid ((k = 1 → (D.sread 0).2.2 = 0) ∧ (k = 2 → (D.sread 0).2.2 = 0 ∧ (D.sread 1).2.2 = 0 ∧ y = (D.sread 1).2.1))) (fun i _ => 2 - (intOf i).toNat)
  case atStart => exact ⟨0, 0, 0, by omega, rfl, s1, a1, B1, ⟨fun h => by omega, fun h => by omega⟩⟩
  case round =>
    obtain ⟨k, x, y, hk, rfl, sk, ak, bk, HK⟩ := hrel
    clear s1 a1 B1
    by_cases hlt : k < 2
    · have HSR1 := Lib.hid (HSR.out k wr bk)
      have hrs := sread_fits HF.out (k : Int)
      have HLK := Lib.hid (show D.lk (k + 1) = pick (D.lk k) (D.sread (k : Int)).1 from rfl)
      have HE : Hid ((D.sread (k : Int)).2.2 ≠ 0 → V = (rc0, (D.sread (k : Int)).2.2)) := fun hne => by
        rw [HVD.out]
        obtain hk0 | hk1 : k = 0 ∨ k = 1 := by omega
        · subst hk0; exact hopen_e0 hne
        · subst hk1; exact hopen_e1 (HK.out.1 rfl) hne
      have HK2 : Hid (∀ y' : Int, (k = 1 → y' = (D.sread (k : Int)).2.1) → (D.sread (k : Int)).2.2 = 0 → Hid ((k + 1 = 1 → (D.sread 0).2.2 = 0) ∧ (k + 1 = 2 → (D.sread 0).2.2 = 0 ∧ (D.sread 1).2.2 = 0 ∧ y' = (D.sread 1).2.1))) := fun y' hy he => by
        refine ⟨fun h1 => ?_, fun h1 => ?_⟩
        · obtain rfl : k = 0 := by omega
          exact he
        · obtain rfl : k = 1 := by omega
          exact ⟨HK.out.1 rfl, he, hy rfl⟩
      clear HK
      generalize D.sread (k : Int) = X at HSR1 hrs HLK HE HK2
      obtain ⟨r, st, er⟩ := X
      have hLs := lk_fits HF.out k
      generalize hLe : D.lk k = L at sk HLK hLs
      clear hLe
      simp only at hrs HLK HE HK2
      unfold sreadV recV at HSR1
      simp only at HSR1
      go_wp2_with fail
      refine HSR1.out.mono ?_
      rintro e w2 ⟨rfl, hb2⟩
      have b3 := (Below.refl w2.heap.size w2).alloc (Nat.le_refl _) (.cells #[.int .i64 r.kind, .int .i64 r.index, .int .i64 r.term, .string r.data] 72)
      have N3 := RecB.new w2 r
      have s3 := (sk.below hb2).below b3
      have a3 := (ak.below hb2).below b3
      have B3 := (bk.trans (hb2.mono bk.size)).trans (b3.mono (bk.trans (hb2.mono bk.size)).size)
      have hlt2 : w.heap.size + 1 < w2.heap.size := (ak.below hb2).lt
      clear HSR1 hb2 sk ak b3
      by_cases he : er = 0
      · subst he
        obtain ⟨x', y', hset, hy', hc, hf⟩ := ArB.at a3 k hlt st
        have hlt' : (k : Int) < 2 := by omega
        have HOF := Lib.hid (fun (W : World) => headOf_any r W (by omega))
        have HY := Lib.hid (HK2.out y' hy' rfl)
        clear HK2 HE
        obtain ⟨⟨n0, n1, n2, n3⟩, _⟩ := N3.cells
        have N4 : RecB ((w2.alloc (.cells #[.int .i64 r.kind, .int .i64 r.index, .int .i64 r.term, .string r.data] 72)).setCell ⟨w.heap.size + 1, k, none⟩ (.int .i64 st)) w2.heap.size r := (block_setCell_other (by omega)).trans N3
        have s4 : StB ((w2.alloc (.cells #[.int .i64 r.kind, .int .i64 r.index, .int .i64 r.term, .string r.data] 72)).setCell ⟨w.heap.size + 1, k, none⟩ (.int .i64 st)) w.heap.size B L := (block_setCell_other (by omega)).trans s3
        have B4 := B3.setCell (p := ⟨w.heap.size + 1, k, none⟩) (show w.heap.size ≤ w.heap.size + 1 by omega) (.int .i64 st)
        obtain ⟨⟨m0, m1, m2, m3⟩, _⟩ := N4.cells
        clear s3 a3 B3
        generalize hw4 : (w2.alloc (.cells #[.int .i64 r.kind, .int .i64 r.index, .int .i64 r.term, .string r.data] 72)).setCell ⟨w.heap.size + 1, k, none⟩ (.int .i64 st) = w4 at *
        unfold headOfV headV recV at HOF
        by_cases hok : (headF r).2 = true
        · by_cases hL0 : L = rc0
          · have HPK := Lib.hid (show pick L r = r by rw [hL0]; exact pick_new hok)
            have HFR := Lib.hid (fun (W : World) (hW : StB W w.heap.size B L) => fresh_any _ _ L W hW true (by simpa using hL0))
            clear hL0
            generalize headF r = hh at HOF hok
            obtain ⟨q, ok⟩ := hh
            simp only at HOF hok
            subst hok
            go_wp2_with fail
            refine (HOF.out w4).mono ?_
            rintro e w5 ⟨rfl, hb5⟩
            have b6 := (Below.refl w5.heap.size w5).alloc (Nat.le_refl _) (.cells #[.int .i64 q.term, .int .i64 q.vote, .int .i64 q.first, .int .i64 q.base] 23)
            have s5 := (s4.below hb5).below b6
            have a5 := (hset.below hb5).below b6
            have N5 := (N4.below hb5).below b6
            have B5 := (B4.trans (hb5.mono B4.size)).trans (b6.mono (B4.trans (hb5.mono B4.size)).size)
            obtain ⟨⟨t0, t1, t2, t3, t4⟩, f1, f2, f3, f4⟩ := s5.cells
            obtain ⟨⟨m0, m1, m2, m3⟩, _⟩ := N5.cells
            clear hb5 b6 s4 hset N4 B4 HOF
            go_wp2_with fail
            refine wp_region_steps (FO1 w.heap.size w2.heap.size r.index L.index) (fun w w' => w = w') (by kernel_rfl) (by kernel_rfl) (by kernel_rfl) rfl ?_ (fun u v w h1 h2 => h1.trans h2) ?_ ?_
            · intro i v w w' _ h1 h2
              subst h2
              exact h1
            · intro i o ho x w1 hR hF
              match i, ho with
              | 0, ho =>
                obtain rfl := Option.some.inj ho
                exact gstep_move rfl (wanted0 rfl) _ rfl _ (eval_of 11 _ (by kernel_rfl) rfl) ⟨_, rfl, rfl, rfl⟩
              | 1, ho =>
                obtain rfl := Option.some.inj ho
                exact gstep_move rfl (wanted0 rfl) _ rfl _ (eval_at 37 0 _ (by kernel_rfl) (show 37 < 65 by decide) (hF 0 (by kernel_rfl))) ⟨_, rfl, rfl, rfl⟩
              | 2, ho =>
                obtain rfl := Option.some.inj ho
                exact gstep_move rfl (wanted_at 38 1 true _ true rfl (by kernel_rfl) (show 38 < 65 by decide) (hF 1 (by kernel_rfl)) rfl) _ rfl _ (eval_of 4 _ (by kernel_rfl) rfl) ⟨_, rfl, rfl, rfl⟩
              | 3, ho =>
                obtain rfl := Option.some.inj ho
                refine gstep_call rfl (wanted_at 38 1 true _ true rfl (by kernel_rfl) (show 38 < 65 by decide) (hF 1 (by kernel_rfl)) rfl) _ _ _ rfl _ (eval_at 39 2 _ (by kernel_rfl) (show 39 < 65 by decide) (hF 2 (by kernel_rfl))) (call_fresh w1 _) ?_
                refine (HFR.out w1 (by rw [← hR]; exact drew_st s5)).mono ?_
                rintro e w9 ⟨rfl, rfl⟩
                exact ⟨_, rfl, _, rfl, rfl, rfl⟩
              | 4, ho =>
                obtain rfl := Option.some.inj ho
                exact gstep_move rfl (wanted_at 38 1 true _ true rfl (by kernel_rfl) (show 38 < 65 by decide) (hF 1 (by kernel_rfl)) rfl) _ rfl _ (eval_at 40 3 _ (by kernel_rfl) (show 40 < 65 by decide) (hF 3 (by kernel_rfl))) ⟨_, rfl, rfl, rfl⟩
              | 5, ho =>
                obtain rfl := Option.some.inj ho
                exact gstep_skip rfl (wanted_at 41 4 false _ false rfl (by kernel_rfl) (show 41 < 65 by decide) (hF 4 (by kernel_rfl)) rfl) ⟨_, rfl, rfl, rfl⟩
              | 6, ho =>
                obtain rfl := Option.some.inj ho
                exact gstep_skip rfl (wanted_at 41 4 false _ false rfl (by kernel_rfl) (show 41 < 65 by decide) (hF 4 (by kernel_rfl)) rfl) ⟨_, rfl, rfl, rfl⟩
              | 7, ho =>
                obtain rfl := Option.some.inj ho
                exact gstep_skip rfl (wanted_at 41 4 false _ false rfl (by kernel_rfl) (show 41 < 65 by decide) (hF 4 (by kernel_rfl)) rfl) ⟨_, rfl, rfl, rfl⟩
              | 8, ho =>
                obtain rfl := Option.some.inj ho
                exact gstep_skip rfl (wanted_at 41 4 false _ false rfl (by kernel_rfl) (show 41 < 65 by decide) (hF 4 (by kernel_rfl)) rfl) ⟨_, rfl, rfl, rfl⟩
              | 9, ho =>
                obtain rfl := Option.some.inj ho
                exact gstep_skip rfl (wanted_at 41 4 false _ false rfl (by kernel_rfl) (show 41 < 65 by decide) (hF 4 (by kernel_rfl)) rfl) ⟨_, rfl, rfl, rfl⟩
              | 10, ho =>
                obtain rfl := Option.some.inj ho
                exact gstep_skip rfl (wanted_at 41 4 false _ false rfl (by kernel_rfl) (show 41 < 65 by decide) (hF 4 (by kernel_rfl)) rfl) ⟨_, rfl, rfl, rfl⟩
              | 11, ho =>
                obtain rfl := Option.some.inj ho
                exact gstep_skip rfl (wanted_at 41 4 false _ false rfl (by kernel_rfl) (show 41 < 65 by decide) (hF 4 (by kernel_rfl)) rfl) ⟨_, rfl, rfl, rfl⟩
              | 12, ho =>
                obtain rfl := Option.some.inj ho
                exact gstep_skip rfl (wanted_at 41 4 false _ false rfl (by kernel_rfl) (show 41 < 65 by decide) (hF 4 (by kernel_rfl)) rfl) ⟨_, rfl, rfl, rfl⟩
              | 13, ho =>
                obtain rfl := Option.some.inj ho
                exact gstep_pick rfl (wanted_at 38 1 true _ true rfl (by kernel_rfl) (show 38 < 65 by decide) (hF 1 (by kernel_rfl)) rfl) _ _ _ rfl true (eval_at 41 4 _ (by kernel_rfl) (show 41 < 65 by decide) (hF 4 (by kernel_rfl))) _ (by rw [if_pos rfl]; exact rfl) ⟨_, rfl, rfl, rfl⟩
              | 14, ho =>
                obtain rfl := Option.some.inj ho
                exact gstep_pick rfl (wanted0 rfl) _ _ _ rfl true (eval_at 38 1 _ (by kernel_rfl) (show 38 < 65 by decide) (hF 1 (by kernel_rfl))) _ (by rw [if_pos rfl]; exact (eval_at 50 13 _ (by kernel_rfl) (show 50 < 65 by decide) (hF 13 (by kernel_rfl)))) ⟨_, rfl, rfl, rfl⟩
              | n + 15, ho => simp at ho
            · intro x w6 hR hF
              have h14 : x 14 = .bool true := hF 14 (by decide)
              dsimp only [Exit.then]
              rename_i K hK
              refine hK _ _ ?_
              have s6 : StB w6 w.heap.size B L := by rw [← hR]; exact drew_st s5
              have a6 : ArB w6 (w.heap.size + 1) x' y' := by rw [← hR]; exact drew_ar a5
              have N6 : RecB w6 w2.heap.size r := by rw [← hR]; exact drew_rec N5
              have B6 : Below w.heap.size w w6 := by rw [← hR]; exact B5.drew
              clear s5 a5 N5 B5 hR hF m0 m1 m2 m3 t0 t1 t2 t3 t4 f1 f2 f3 f4
              obtain ⟨⟨t0, t1, t2, t3, t4⟩, f1, f2, f3, f4⟩ := s6.cells
              obtain ⟨⟨m0, m1, m2, m3⟩, _⟩ := N6.cells
              simp only [putAll, h14, Act.put, List.setIfInBounds_toArray, List.set_cons_succ, List.set_cons_zero]
              clear h14
              go_wp2_with fail
              go_roundw
              case rel => exact ⟨k + 1, x', y', by omega, by go_num, by rw [HLK.out, HPK.out]; exact s6.set r, ArB.other a6 (by omega), below_st B6 (Nat.le_refl _) r, HY.out⟩
              case measure => simp [intOf]; omega
          · have HFR := Lib.hid (fun (W : World) (hW : StB W w.heap.size B L) => fresh_any _ _ L W hW false (by simpa using hL0))
            by_cases hix : L.index < r.index
            · have HPK := Lib.hid (pick_more hok hix)
              have hgt : decide (L.index < r.index) = true := by simpa using hix
              clear hL0 hix
              generalize headF r = hh at HOF hok
              obtain ⟨q, ok⟩ := hh
              simp only at HOF hok
              subst hok
              go_wp2_with fail
              refine (HOF.out w4).mono ?_
              rintro e w5 ⟨rfl, hb5⟩
              have b6 := (Below.refl w5.heap.size w5).alloc (Nat.le_refl _) (.cells #[.int .i64 q.term, .int .i64 q.vote, .int .i64 q.first, .int .i64 q.base] 23)
              have s5 := (s4.below hb5).below b6
              have a5 := (hset.below hb5).below b6
              have N5 := (N4.below hb5).below b6
              have B5 := (B4.trans (hb5.mono B4.size)).trans (b6.mono (B4.trans (hb5.mono B4.size)).size)
              obtain ⟨⟨t0, t1, t2, t3, t4⟩, f1, f2, f3, f4⟩ := s5.cells
              obtain ⟨⟨m0, m1, m2, m3⟩, _⟩ := N5.cells
              clear hb5 b6 s4 hset N4 B4 HOF
              go_wp2_with fail
              refine wp_region_steps (FO2 w.heap.size w2.heap.size r.index L.index) (fun w w' => w = w') (by kernel_rfl) (by kernel_rfl) (by kernel_rfl) rfl ?_ (fun u v w h1 h2 => h1.trans h2) ?_ ?_
              · intro i v w w' _ h1 h2
                subst h2
                exact h1
              · intro i o ho x w1 hR hF
                match i, ho with
                | 0, ho =>
                  obtain rfl := Option.some.inj ho
                  exact gstep_move rfl (wanted0 rfl) _ rfl _ (eval_of 11 _ (by kernel_rfl) rfl) ⟨_, rfl, rfl, rfl⟩
                | 1, ho =>
                  obtain rfl := Option.some.inj ho
                  exact gstep_move rfl (wanted0 rfl) _ rfl _ (eval_at 37 0 _ (by kernel_rfl) (show 37 < 65 by decide) (hF 0 (by kernel_rfl))) ⟨_, rfl, rfl, rfl⟩
                | 2, ho =>
                  obtain rfl := Option.some.inj ho
                  exact gstep_move rfl (wanted_at 38 1 true _ true rfl (by kernel_rfl) (show 38 < 65 by decide) (hF 1 (by kernel_rfl)) rfl) _ rfl _ (eval_of 4 _ (by kernel_rfl) rfl) ⟨_, rfl, rfl, rfl⟩
                | 3, ho =>
                  obtain rfl := Option.some.inj ho
                  refine gstep_call rfl (wanted_at 38 1 true _ true rfl (by kernel_rfl) (show 38 < 65 by decide) (hF 1 (by kernel_rfl)) rfl) _ _ _ rfl _ (eval_at 39 2 _ (by kernel_rfl) (show 39 < 65 by decide) (hF 2 (by kernel_rfl))) (call_fresh w1 _) ?_
                  refine (HFR.out w1 (by rw [← hR]; exact drew_st s5)).mono ?_
                  rintro e w9 ⟨rfl, rfl⟩
                  exact ⟨_, rfl, _, rfl, rfl, rfl⟩
                | 4, ho =>
                  obtain rfl := Option.some.inj ho
                  exact gstep_move rfl (wanted_at 38 1 true _ true rfl (by kernel_rfl) (show 38 < 65 by decide) (hF 1 (by kernel_rfl)) rfl) _ rfl _ (eval_at 40 3 _ (by kernel_rfl) (show 40 < 65 by decide) (hF 3 (by kernel_rfl))) ⟨_, rfl, rfl, rfl⟩
                | 5, ho =>
                  obtain rfl := Option.some.inj ho
                  exact gstep_field rfl (wanted_at 41 4 false _ true rfl (by kernel_rfl) (show 41 < 65 by decide) (hF 4 (by kernel_rfl)) rfl) _ _ _ rfl _ (eval_of 7 _ (by kernel_rfl) rfl) _ (run_recf1 w1 _) ⟨_, rfl, rfl, rfl⟩
                | 6, ho =>
                  obtain rfl := Option.some.inj ho
                  exact gstep_load rfl (wanted_at 41 4 false _ true rfl (by kernel_rfl) (show 41 < 65 by decide) (hF 4 (by kernel_rfl)) rfl) _ _ rfl _ (eval_at 42 5 _ (by kernel_rfl) (show 42 < 65 by decide) (hF 5 (by kernel_rfl))) _ (run_loadI w1 _ _ (by rw [← hR]; exact drew_cell m1)) ⟨_, rfl, rfl, rfl⟩
                | 7, ho =>
                  obtain rfl := Option.some.inj ho
                  exact gstep_move rfl (wanted_at 41 4 false _ true rfl (by kernel_rfl) (show 41 < 65 by decide) (hF 4 (by kernel_rfl)) rfl) _ rfl _ (eval_of 4 _ (by kernel_rfl) rfl) ⟨_, rfl, rfl, rfl⟩
                | 8, ho =>
                  obtain rfl := Option.some.inj ho
                  exact gstep_nil rfl (wanted_at 41 4 false _ true rfl (by kernel_rfl) (show 41 < 65 by decide) (hF 4 (by kernel_rfl)) rfl) _ rfl _ (eval_at 44 7 _ (by kernel_rfl) (show 44 < 65 by decide) (hF 7 (by kernel_rfl))) ⟨_, rfl, rfl, rfl⟩
                | 9, ho =>
                  obtain rfl := Option.some.inj ho
                  exact gstep_field rfl (wanted_at 41 4 false _ true rfl (by kernel_rfl) (show 41 < 65 by decide) (hF 4 (by kernel_rfl)) rfl) _ _ _ rfl _ (eval_at 45 8 _ (by kernel_rfl) (show 45 < 65 by decide) (hF 8 (by kernel_rfl))) _ (run_stf1 w1 _) ⟨_, rfl, rfl, rfl⟩
                | 10, ho =>
                  obtain rfl := Option.some.inj ho
                  exact gstep_field rfl (wanted_at 41 4 false _ true rfl (by kernel_rfl) (show 41 < 65 by decide) (hF 4 (by kernel_rfl)) rfl) _ _ _ rfl _ (eval_at 46 9 _ (by kernel_rfl) (show 46 < 65 by decide) (hF 9 (by kernel_rfl))) _ (run_recf1' w1 _) ⟨_, rfl, rfl, rfl⟩
                | 11, ho =>
                  obtain rfl := Option.some.inj ho
                  exact gstep_load rfl (wanted_at 41 4 false _ true rfl (by kernel_rfl) (show 41 < 65 by decide) (hF 4 (by kernel_rfl)) rfl) _ _ rfl _ (eval_at 47 10 _ (by kernel_rfl) (show 47 < 65 by decide) (hF 10 (by kernel_rfl))) _ (run_loadI w1 _ _ (by rw [← hR]; exact drew_cell t2)) ⟨_, rfl, rfl, rfl⟩
                | 12, ho =>
                  obtain rfl := Option.some.inj ho
                  exact gstep_bin rfl (wanted_at 41 4 false _ true rfl (by kernel_rfl) (show 41 < 65 by decide) (hF 4 (by kernel_rfl)) rfl) _ _ _ _ _ rfl _ _ (eval_at 43 6 _ (by kernel_rfl) (show 43 < 65 by decide) (hF 6 (by kernel_rfl))) (eval_at 48 11 _ (by kernel_rfl) (show 48 < 65 by decide) (hF 11 (by kernel_rfl))) _ (run_gtr w1 _ _ true hgt _ _) ⟨_, rfl, rfl, rfl⟩
                | 13, ho =>
                  obtain rfl := Option.some.inj ho
                  exact gstep_pick rfl (wanted_at 38 1 true _ true rfl (by kernel_rfl) (show 38 < 65 by decide) (hF 1 (by kernel_rfl)) rfl) _ _ _ rfl false (eval_at 41 4 _ (by kernel_rfl) (show 41 < 65 by decide) (hF 4 (by kernel_rfl))) _ (by rw [if_neg (by decide)]; exact (eval_at 49 12 _ (by kernel_rfl) (show 49 < 65 by decide) (hF 12 (by kernel_rfl)))) ⟨_, rfl, rfl, rfl⟩
                | 14, ho =>
                  obtain rfl := Option.some.inj ho
                  exact gstep_pick rfl (wanted0 rfl) _ _ _ rfl true (eval_at 38 1 _ (by kernel_rfl) (show 38 < 65 by decide) (hF 1 (by kernel_rfl))) _ (by rw [if_pos rfl]; exact (eval_at 50 13 _ (by kernel_rfl) (show 50 < 65 by decide) (hF 13 (by kernel_rfl)))) ⟨_, rfl, rfl, rfl⟩
                | n + 15, ho => simp at ho
              · intro x w6 hR hF
                have h14 : x 14 = .bool true := hF 14 (by decide)
                dsimp only [Exit.then]
                rename_i K hK
                refine hK _ _ ?_
                have s6 : StB w6 w.heap.size B L := by rw [← hR]; exact drew_st s5
                have a6 : ArB w6 (w.heap.size + 1) x' y' := by rw [← hR]; exact drew_ar a5
                have N6 : RecB w6 w2.heap.size r := by rw [← hR]; exact drew_rec N5
                have B6 : Below w.heap.size w w6 := by rw [← hR]; exact B5.drew
                clear s5 a5 N5 B5 hR hF m0 m1 m2 m3 t0 t1 t2 t3 t4 f1 f2 f3 f4
                obtain ⟨⟨t0, t1, t2, t3, t4⟩, f1, f2, f3, f4⟩ := s6.cells
                obtain ⟨⟨m0, m1, m2, m3⟩, _⟩ := N6.cells
                simp only [putAll, h14, Act.put, List.setIfInBounds_toArray, List.set_cons_succ, List.set_cons_zero]
                clear h14
                go_wp2_with fail
                go_roundw
                case rel => exact ⟨k + 1, x', y', by omega, by go_num, by rw [HLK.out, HPK.out]; exact s6.set r, ArB.other a6 (by omega), below_st B6 (Nat.le_refl _) r, HY.out⟩
                case measure => simp [intOf]; omega
            · have HPK := Lib.hid (pick_less hL0 (by omega : r.index ≤ L.index))
              have hgt : decide (L.index < r.index) = false := by simpa using hix
              clear hL0 hix
              generalize headF r = hh at HOF hok
              obtain ⟨q, ok⟩ := hh
              simp only at HOF hok
              subst hok
              go_wp2_with fail
              refine (HOF.out w4).mono ?_
              rintro e w5 ⟨rfl, hb5⟩
              have b6 := (Below.refl w5.heap.size w5).alloc (Nat.le_refl _) (.cells #[.int .i64 q.term, .int .i64 q.vote, .int .i64 q.first, .int .i64 q.base] 23)
              have s5 := (s4.below hb5).below b6
              have a5 := (hset.below hb5).below b6
              have N5 := (N4.below hb5).below b6
              have B5 := (B4.trans (hb5.mono B4.size)).trans (b6.mono (B4.trans (hb5.mono B4.size)).size)
              obtain ⟨⟨t0, t1, t2, t3, t4⟩, f1, f2, f3, f4⟩ := s5.cells
              obtain ⟨⟨m0, m1, m2, m3⟩, _⟩ := N5.cells
              clear hb5 b6 s4 hset N4 B4 HOF
              go_wp2_with fail
              refine wp_region_steps (FO3 w.heap.size w2.heap.size r.index L.index) (fun w w' => w = w') (by kernel_rfl) (by kernel_rfl) (by kernel_rfl) rfl ?_ (fun u v w h1 h2 => h1.trans h2) ?_ ?_
              · intro i v w w' _ h1 h2
                subst h2
                exact h1
              · intro i o ho x w1 hR hF
                match i, ho with
                | 0, ho =>
                  obtain rfl := Option.some.inj ho
                  exact gstep_move rfl (wanted0 rfl) _ rfl _ (eval_of 11 _ (by kernel_rfl) rfl) ⟨_, rfl, rfl, rfl⟩
                | 1, ho =>
                  obtain rfl := Option.some.inj ho
                  exact gstep_move rfl (wanted0 rfl) _ rfl _ (eval_at 37 0 _ (by kernel_rfl) (show 37 < 65 by decide) (hF 0 (by kernel_rfl))) ⟨_, rfl, rfl, rfl⟩
                | 2, ho =>
                  obtain rfl := Option.some.inj ho
                  exact gstep_move rfl (wanted_at 38 1 true _ true rfl (by kernel_rfl) (show 38 < 65 by decide) (hF 1 (by kernel_rfl)) rfl) _ rfl _ (eval_of 4 _ (by kernel_rfl) rfl) ⟨_, rfl, rfl, rfl⟩
                | 3, ho =>
                  obtain rfl := Option.some.inj ho
                  refine gstep_call rfl (wanted_at 38 1 true _ true rfl (by kernel_rfl) (show 38 < 65 by decide) (hF 1 (by kernel_rfl)) rfl) _ _ _ rfl _ (eval_at 39 2 _ (by kernel_rfl) (show 39 < 65 by decide) (hF 2 (by kernel_rfl))) (call_fresh w1 _) ?_
                  refine (HFR.out w1 (by rw [← hR]; exact drew_st s5)).mono ?_
                  rintro e w9 ⟨rfl, rfl⟩
                  exact ⟨_, rfl, _, rfl, rfl, rfl⟩
                | 4, ho =>
                  obtain rfl := Option.some.inj ho
                  exact gstep_move rfl (wanted_at 38 1 true _ true rfl (by kernel_rfl) (show 38 < 65 by decide) (hF 1 (by kernel_rfl)) rfl) _ rfl _ (eval_at 40 3 _ (by kernel_rfl) (show 40 < 65 by decide) (hF 3 (by kernel_rfl))) ⟨_, rfl, rfl, rfl⟩
                | 5, ho =>
                  obtain rfl := Option.some.inj ho
                  exact gstep_field rfl (wanted_at 41 4 false _ true rfl (by kernel_rfl) (show 41 < 65 by decide) (hF 4 (by kernel_rfl)) rfl) _ _ _ rfl _ (eval_of 7 _ (by kernel_rfl) rfl) _ (run_recf1 w1 _) ⟨_, rfl, rfl, rfl⟩
                | 6, ho =>
                  obtain rfl := Option.some.inj ho
                  exact gstep_load rfl (wanted_at 41 4 false _ true rfl (by kernel_rfl) (show 41 < 65 by decide) (hF 4 (by kernel_rfl)) rfl) _ _ rfl _ (eval_at 42 5 _ (by kernel_rfl) (show 42 < 65 by decide) (hF 5 (by kernel_rfl))) _ (run_loadI w1 _ _ (by rw [← hR]; exact drew_cell m1)) ⟨_, rfl, rfl, rfl⟩
                | 7, ho =>
                  obtain rfl := Option.some.inj ho
                  exact gstep_move rfl (wanted_at 41 4 false _ true rfl (by kernel_rfl) (show 41 < 65 by decide) (hF 4 (by kernel_rfl)) rfl) _ rfl _ (eval_of 4 _ (by kernel_rfl) rfl) ⟨_, rfl, rfl, rfl⟩
                | 8, ho =>
                  obtain rfl := Option.some.inj ho
                  exact gstep_nil rfl (wanted_at 41 4 false _ true rfl (by kernel_rfl) (show 41 < 65 by decide) (hF 4 (by kernel_rfl)) rfl) _ rfl _ (eval_at 44 7 _ (by kernel_rfl) (show 44 < 65 by decide) (hF 7 (by kernel_rfl))) ⟨_, rfl, rfl, rfl⟩
                | 9, ho =>
                  obtain rfl := Option.some.inj ho
                  exact gstep_field rfl (wanted_at 41 4 false _ true rfl (by kernel_rfl) (show 41 < 65 by decide) (hF 4 (by kernel_rfl)) rfl) _ _ _ rfl _ (eval_at 45 8 _ (by kernel_rfl) (show 45 < 65 by decide) (hF 8 (by kernel_rfl))) _ (run_stf1 w1 _) ⟨_, rfl, rfl, rfl⟩
                | 10, ho =>
                  obtain rfl := Option.some.inj ho
                  exact gstep_field rfl (wanted_at 41 4 false _ true rfl (by kernel_rfl) (show 41 < 65 by decide) (hF 4 (by kernel_rfl)) rfl) _ _ _ rfl _ (eval_at 46 9 _ (by kernel_rfl) (show 46 < 65 by decide) (hF 9 (by kernel_rfl))) _ (run_recf1' w1 _) ⟨_, rfl, rfl, rfl⟩
                | 11, ho =>
                  obtain rfl := Option.some.inj ho
                  exact gstep_load rfl (wanted_at 41 4 false _ true rfl (by kernel_rfl) (show 41 < 65 by decide) (hF 4 (by kernel_rfl)) rfl) _ _ rfl _ (eval_at 47 10 _ (by kernel_rfl) (show 47 < 65 by decide) (hF 10 (by kernel_rfl))) _ (run_loadI w1 _ _ (by rw [← hR]; exact drew_cell t2)) ⟨_, rfl, rfl, rfl⟩
                | 12, ho =>
                  obtain rfl := Option.some.inj ho
                  exact gstep_bin rfl (wanted_at 41 4 false _ true rfl (by kernel_rfl) (show 41 < 65 by decide) (hF 4 (by kernel_rfl)) rfl) _ _ _ _ _ rfl _ _ (eval_at 43 6 _ (by kernel_rfl) (show 43 < 65 by decide) (hF 6 (by kernel_rfl))) (eval_at 48 11 _ (by kernel_rfl) (show 48 < 65 by decide) (hF 11 (by kernel_rfl))) _ (run_gtr w1 _ _ false hgt _ _) ⟨_, rfl, rfl, rfl⟩
                | 13, ho =>
                  obtain rfl := Option.some.inj ho
                  exact gstep_pick rfl (wanted_at 38 1 true _ true rfl (by kernel_rfl) (show 38 < 65 by decide) (hF 1 (by kernel_rfl)) rfl) _ _ _ rfl false (eval_at 41 4 _ (by kernel_rfl) (show 41 < 65 by decide) (hF 4 (by kernel_rfl))) _ (by rw [if_neg (by decide)]; exact (eval_at 49 12 _ (by kernel_rfl) (show 49 < 65 by decide) (hF 12 (by kernel_rfl)))) ⟨_, rfl, rfl, rfl⟩
                | 14, ho =>
                  obtain rfl := Option.some.inj ho
                  exact gstep_pick rfl (wanted0 rfl) _ _ _ rfl true (eval_at 38 1 _ (by kernel_rfl) (show 38 < 65 by decide) (hF 1 (by kernel_rfl))) _ (by rw [if_pos rfl]; exact (eval_at 50 13 _ (by kernel_rfl) (show 50 < 65 by decide) (hF 13 (by kernel_rfl)))) ⟨_, rfl, rfl, rfl⟩
                | n + 15, ho => simp at ho
              · intro x w6 hR hF
                have h14 : x 14 = .bool false := hF 14 (by decide)
                dsimp only [Exit.then]
                rename_i K hK
                refine hK _ _ ?_
                have s6 : StB w6 w.heap.size B L := by rw [← hR]; exact drew_st s5
                have a6 : ArB w6 (w.heap.size + 1) x' y' := by rw [← hR]; exact drew_ar a5
                have N6 : RecB w6 w2.heap.size r := by rw [← hR]; exact drew_rec N5
                have B6 : Below w.heap.size w w6 := by rw [← hR]; exact B5.drew
                clear s5 a5 N5 B5 hR hF m0 m1 m2 m3 t0 t1 t2 t3 t4 f1 f2 f3 f4
                obtain ⟨⟨t0, t1, t2, t3, t4⟩, f1, f2, f3, f4⟩ := s6.cells
                obtain ⟨⟨m0, m1, m2, m3⟩, _⟩ := N6.cells
                simp only [putAll, h14, Act.put, List.setIfInBounds_toArray, List.set_cons_succ, List.set_cons_zero]
                clear h14
                go_wp2_with fail
                go_roundw
                case rel => exact ⟨k + 1, x', y', by omega, by go_num, by rw [HLK.out, HPK.out]; exact s6, a6, B6, HY.out⟩
                case measure => simp [intOf]; omega
        · have hok : (headF r).2 = false := by simpa using hok
          have HPK := Lib.hid (pick_not (L := L) hok)
          generalize headF r = hh at HOF hok
          obtain ⟨q, ok⟩ := hh
          simp only at HOF hok
          subst hok
          go_wp2_with fail
          refine (HOF.out w4).mono ?_
          rintro e w5 ⟨rfl, hb5⟩
          have b6 := (Below.refl w5.heap.size w5).alloc (Nat.le_refl _) (.cells #[.int .i64 q.term, .int .i64 q.vote, .int .i64 q.first, .int .i64 q.base] 23)
          have s5 := (s4.below hb5).below b6
          have a5 := (hset.below hb5).below b6
          have N5 := (N4.below hb5).below b6
          have B5 := (B4.trans (hb5.mono B4.size)).trans (b6.mono (B4.trans (hb5.mono B4.size)).size)
          obtain ⟨⟨t0, t1, t2, t3, t4⟩, f1, f2, f3, f4⟩ := s5.cells
          obtain ⟨⟨m0, m1, m2, m3⟩, _⟩ := N5.cells
          clear hb5 b6 s4 hset N4 B4 HOF
          go_wp2_with fail
          refine wp_region_steps (FO4 w.heap.size w2.heap.size r.index L.index) (fun w w' => w = w') (by kernel_rfl) (by kernel_rfl) (by kernel_rfl) rfl ?_ (fun u v w h1 h2 => h1.trans h2) ?_ ?_
          · intro i v w w' _ h1 h2
            subst h2
            exact h1
          · intro i o ho x w1 hR hF
            match i, ho with
            | 0, ho =>
              obtain rfl := Option.some.inj ho
              exact gstep_move rfl (wanted0 rfl) _ rfl _ (eval_of 11 _ (by kernel_rfl) rfl) ⟨_, rfl, rfl, rfl⟩
            | 1, ho =>
              obtain rfl := Option.some.inj ho
              exact gstep_move rfl (wanted0 rfl) _ rfl _ (eval_at 37 0 _ (by kernel_rfl) (show 37 < 65 by decide) (hF 0 (by kernel_rfl))) ⟨_, rfl, rfl, rfl⟩
            | 2, ho =>
              obtain rfl := Option.some.inj ho
              exact gstep_skip rfl (wanted_at 38 1 true _ false rfl (by kernel_rfl) (show 38 < 65 by decide) (hF 1 (by kernel_rfl)) rfl) ⟨_, rfl, rfl, rfl⟩
            | 3, ho =>
              obtain rfl := Option.some.inj ho
              exact gstep_skip rfl (wanted_at 38 1 true _ false rfl (by kernel_rfl) (show 38 < 65 by decide) (hF 1 (by kernel_rfl)) rfl) ⟨_, rfl, rfl, rfl⟩
            | 4, ho =>
              obtain rfl := Option.some.inj ho
              exact gstep_skip rfl (wanted_at 38 1 true _ false rfl (by kernel_rfl) (show 38 < 65 by decide) (hF 1 (by kernel_rfl)) rfl) ⟨_, rfl, rfl, rfl⟩
            | 5, ho =>
              obtain rfl := Option.some.inj ho
              exact gstep_skip rfl (wanted_at 41 4 false _ false rfl (by kernel_rfl) (show 41 < 65 by decide) (hF 4 (by kernel_rfl)) rfl) ⟨_, rfl, rfl, rfl⟩
            | 6, ho =>
              obtain rfl := Option.some.inj ho
              exact gstep_skip rfl (wanted_at 41 4 false _ false rfl (by kernel_rfl) (show 41 < 65 by decide) (hF 4 (by kernel_rfl)) rfl) ⟨_, rfl, rfl, rfl⟩
            | 7, ho =>
              obtain rfl := Option.some.inj ho
              exact gstep_skip rfl (wanted_at 41 4 false _ false rfl (by kernel_rfl) (show 41 < 65 by decide) (hF 4 (by kernel_rfl)) rfl) ⟨_, rfl, rfl, rfl⟩
            | 8, ho =>
              obtain rfl := Option.some.inj ho
              exact gstep_skip rfl (wanted_at 41 4 false _ false rfl (by kernel_rfl) (show 41 < 65 by decide) (hF 4 (by kernel_rfl)) rfl) ⟨_, rfl, rfl, rfl⟩
            | 9, ho =>
              obtain rfl := Option.some.inj ho
              exact gstep_skip rfl (wanted_at 41 4 false _ false rfl (by kernel_rfl) (show 41 < 65 by decide) (hF 4 (by kernel_rfl)) rfl) ⟨_, rfl, rfl, rfl⟩
            | 10, ho =>
              obtain rfl := Option.some.inj ho
              exact gstep_skip rfl (wanted_at 41 4 false _ false rfl (by kernel_rfl) (show 41 < 65 by decide) (hF 4 (by kernel_rfl)) rfl) ⟨_, rfl, rfl, rfl⟩
            | 11, ho =>
              obtain rfl := Option.some.inj ho
              exact gstep_skip rfl (wanted_at 41 4 false _ false rfl (by kernel_rfl) (show 41 < 65 by decide) (hF 4 (by kernel_rfl)) rfl) ⟨_, rfl, rfl, rfl⟩
            | 12, ho =>
              obtain rfl := Option.some.inj ho
              exact gstep_skip rfl (wanted_at 41 4 false _ false rfl (by kernel_rfl) (show 41 < 65 by decide) (hF 4 (by kernel_rfl)) rfl) ⟨_, rfl, rfl, rfl⟩
            | 13, ho =>
              obtain rfl := Option.some.inj ho
              exact gstep_skip rfl (wanted_at 38 1 true _ false rfl (by kernel_rfl) (show 38 < 65 by decide) (hF 1 (by kernel_rfl)) rfl) ⟨_, rfl, rfl, rfl⟩
            | 14, ho =>
              obtain rfl := Option.some.inj ho
              exact gstep_pick rfl (wanted0 rfl) _ _ _ rfl false (eval_at 38 1 _ (by kernel_rfl) (show 38 < 65 by decide) (hF 1 (by kernel_rfl))) _ (by rw [if_neg (by decide)]; exact rfl) ⟨_, rfl, rfl, rfl⟩
            | n + 15, ho => simp at ho
          · intro x w6 hR hF
            have h14 : x 14 = .bool false := hF 14 (by decide)
            dsimp only [Exit.then]
            rename_i K hK
            refine hK _ _ ?_
            have s6 : StB w6 w.heap.size B L := by rw [← hR]; exact drew_st s5
            have a6 : ArB w6 (w.heap.size + 1) x' y' := by rw [← hR]; exact drew_ar a5
            have N6 : RecB w6 w2.heap.size r := by rw [← hR]; exact drew_rec N5
            have B6 : Below w.heap.size w w6 := by rw [← hR]; exact B5.drew
            clear s5 a5 N5 B5 hR hF m0 m1 m2 m3 t0 t1 t2 t3 t4 f1 f2 f3 f4
            obtain ⟨⟨t0, t1, t2, t3, t4⟩, f1, f2, f3, f4⟩ := s6.cells
            obtain ⟨⟨m0, m1, m2, m3⟩, _⟩ := N6.cells
            simp only [putAll, h14, Act.put, List.setIfInBounds_toArray, List.set_cons_succ, List.set_cons_zero]
            clear h14
            go_wp2_with fail
            go_roundw
            case rel => exact ⟨k + 1, x', y', by omega, by go_num, by rw [HLK.out, HPK.out]; exact s6, a6, B6, HY.out⟩
            case measure => simp [intOf]; omega
      · have e1 : (er == 0) = false := by simpa using he
        have HV := Lib.hid (HE.out he)
        go_wp2_with fail
        go_ret2
        exact ⟨.inr ⟨by rw [HV.out]; exact he, by rw [HV.out]; rfl⟩, B3⟩
    · obtain rfl : k = 2 := by omega
      have HL := Lib.hid (HK.out.2 rfl)
      have hLs := lk_fits HF.out 2
      by_cases hL0 : D.lk 2 = rc0
      · by_cases hy : y = 0
        · have HV := Lib.hid (show V = (D.lk 2, 0) by rw [HVD.out]; exact hopen_ok HL.out.1 HL.out.2.1 (fun h => h.2 (HL.out.2.2.symm.trans hy)))
          have HFR := Lib.hid (fresh_any _ _ _ wr sk true (by simpa using hL0))
          subst hy
          have c1 : wr.cell? ⟨w.heap.size + 1, 1, none⟩ = some (.int .i64 0) := cell_of ak rfl
          clear HK HSR HVD
          go_wp2_with (go_at_call 34; refine HFR.out.mono ?_; rintro e w' ⟨rfl, rfl⟩)
          go_ret2
          exact ⟨.inl ⟨by rw [HV.out], _, rfl, by rw [HV.out]; exact sk, Nat.le_refl _⟩, bk⟩
        · have HV := Lib.hid (show V = (rc0, 6) by rw [HVD.out]; exact hopen_bad HL.out.1 HL.out.2.1 hL0 (fun h => hy (HL.out.2.2.trans h)))
          have HFR := Lib.hid (fresh_any _ _ _ wr sk true (by simpa using hL0))
          have ey : (y == 0) = false := by simpa using hy
          have c1 : wr.cell? ⟨w.heap.size + 1, 1, none⟩ = some (.int .i64 y) := cell_of ak rfl
          clear HK HSR HVD
          go_wp2_with (go_at_call 34; refine HFR.out.mono ?_; rintro e w' ⟨rfl, rfl⟩)
          go_ret2
          exact ⟨.inr ⟨by rw [HV.out]; decide, by rw [HV.out]; rfl⟩, bk⟩
      · have HV := Lib.hid (show V = (D.lk 2, 0) by rw [HVD.out]; exact hopen_ok HL.out.1 HL.out.2.1 (fun h => hL0 h.1))
        have HFR := Lib.hid (fresh_any _ _ _ wr sk false (by simpa using hL0))
        have c1 : wr.cell? ⟨w.heap.size + 1, 1, none⟩ = some (.int .i64 y) := cell_of ak rfl
        clear HK HSR HVD
        go_wp2_with (go_at_call 34; refine HFR.out.mono ?_; rintro e w' ⟨rfl, rfl⟩)
        go_ret2
        exact ⟨.inl ⟨by rw [HV.out], _, rfl, by rw [HV.out]; exact sk, Nat.le_refl _⟩, bk⟩
end Go.Proofs.YtigebaaldikeaaaDoor
