/- The reader's list. No conditions beyond those in each statement. -/
import Derived.Test.YtddkbninkncbeaaMRow
namespace Go.Proofs.Ytddkbninkncbeaa
open Go.RowKit
set_option linter.unusedVariables false
set_option linter.unusedSimpArgs false
set_option maxRecDepth 100000

theorem gstep_conv {P : Program} {Q : Exit → Act → World → Prop} {l : List Oper} {i : Nat} {o : Oper} {a : Act} {w : World} {K : Act → World → Prop} (ho : l[i]? = some o) (hw : WantedIs l a o true) (t u : TypeId) (s : Operand) (hop : o.op = .convert t u s) (v : Value) (he : a.eval s = v) (v' : Value)
    (hr : (convert t u v).run P w = .ok v' w) (h : K (a.put o.dst v') w) : Step P l Q i K a w :=
  gstep_value ho hw v' w (by simp only [execOp, hop, he, Sem.run_bind, Sem.run_pure, hr, Result.andThen_ok]) h
theorem run_lf3 (W : World) (b : Nat) : (Instr.fieldAt 27 (.pointer (some ⟨b, 0, none⟩)) 3).run Try.prog W = .ok (.pointer (some ⟨b, 3, none⟩)) W := by go_simp
theorem run_loadSms (W : World) (p : Addr) (a : Option Addr) (n c : Nat) (h : W.cell? p = some (.slice a n c)) : (Instr.loadAt 25 (.pointer (some p))).run Try.prog W = .ok (.slice a n c) W := by go_simp
theorem run_storeSms (W : World) (p : Addr) (a : Option Addr) (n c : Nat) (u : Value) (h : W.cell? p = some u) (hf : W.frozen? p = false) : (Instr.storeAt 25 (.pointer (some p)) (.slice a n c)).run Try.prog W = .ok () (W.setCell p (.slice a n c)) := by go_simp
theorem run_rowS (W : World) (z : Int) : (Instr.buildSlice 25 1 #[(0, .int .u32 z)]).run Try.prog W = .ok (.slice (some ⟨W.heap.size, 0, none⟩) 1 1) (W.alloc (.cells #[.int .u32 z] 43)) := by go_simp
theorem run_convS (W : World) (z : Int) (h : 0 ≤ z ∧ z ≤ 4294967295) : (convert 3 43 (.int .i64 z)).run Try.prog W = .ok (.int .u32 z) W := by
  have e : IntKind.u32.wrap z = z := by unfold IntKind.wrap; simp [IntKind.bits, IntKind.signed]; omega
  simp [go_sem, e]
theorem call_num (W : World) (v m : Value) : (callFunc 24 #[v, m]).run Try.prog W = .ok (.enter 24 #[v, m]) W := by kernel_rfl
def FRl (cb rb : Nat) (v0 : Value) (z : Int) : Nat → Value → Prop
  | 0, v => v = .pointer (some ⟨cb, 3, none⟩)
  | 1, v => v = v0
  | 2, v => v = .pointer (some ⟨rb, 0, none⟩)
  | 3, v => v = .int .i64 z
  | 4, v => v = .int .u32 z
  | 7, v => v = .pointer (some ⟨cb, 3, none⟩)
  | _, _ => True
/-- What has run of the region that appends a sum. -/
structure JRl (base rs rb cb : Nat) (w0 : World) (v0 : Value) (i t n : Int) (L : List Int) (z : Int) (st st' : RS) (b : Nat → Bool) (x : Nat → Value) (w : World) : Prop where
  bel : w0.grownBy w (some rb)
  res : LsB w rs (.slice none 0 0) 0 0 0
  box : LsB w cb v0 i t n
  rd : Rs w rb (if b 3 then st' else st)
  low : base ≤ w.heap.size
  row : b 6 = false → SRow w base v0 L
  u4 : b 4 = true → b 3 = true
  u5 : b 5 = true → b 4 = true
  u6 : b 6 = true → b 5 = true
  r5 : b 5 = true → b 6 = false → ∃ g, x 5 = .slice (some ⟨g, 0, none⟩) 1 1 ∧ w.heap[g]? = some (.cells #[.int .u32 z] 43 (0, 0))
  r6 : b 6 = true → SRow w base (x 6) (L ++ [z])
section
variable {base rs rb cb : Nat} {w0 w w' : World} {v0 : Value} {i t n : Int} {L : List Int} {z : Int} {st st' : RS} {b : Nat → Bool} {x : Nat → Value}
theorem not_of {p q : Bool} (h : p = true → q = true) (hq : q = false) : p = false := by cases p; rfl; rw [h rfl] at hq; cases hq
theorem JRl.pure {k : Nat} {v : Value} (h : JRl base rs rb cb w0 v0 i t n L z st st' b x w) (hi : ¬ 3 = k ∧ ¬ 4 = k ∧ ¬ 5 = k ∧ ¬ 6 = k) : JRl base rs rb cb w0 v0 i t n L z st st' (setB b k) (setX x k v) w := by
  obtain ⟨e3, e4, e5, e6⟩ := hi
  refine ⟨h.bel, h.res, h.box, by rw [setB_ne e3]; exact h.rd, h.low, by rw [setB_ne e6]; exact h.row, ?_, ?_, ?_, ?_, ?_⟩
  · rw [setB_ne e4, setB_ne e3]; exact h.u4
  · rw [setB_ne e4, setB_ne e5]; exact h.u5
  · rw [setB_ne e5, setB_ne e6]; exact h.u6
  · rw [setB_ne e5, setB_ne e6, setX_ne e5]; exact h.r5
  · rw [setB_ne e6, setX_ne e6]; exact h.r6
theorem JRl.s4 {v : Value} (h : JRl base rs rb cb w0 v0 i t n L z st st' b x w) (h3 : b 3 = true) (h4 : b 4 = false) : JRl base rs rb cb w0 v0 i t n L z st st' (setB b 4) (setX x 4 v) w := by
  have h5 := not_of h.u5 h4
  have h6 := not_of h.u6 h5
  refine ⟨h.bel, h.res, h.box, by rw [setB_ne (by decide)]; exact h.rd, h.low, by rw [setB_ne (by decide)]; exact h.row, ?_, ?_, ?_, ?_, ?_⟩
  · intro _; rw [setB_ne (by decide)]; exact h3
  · intro _; exact setB_same _ _
  · rw [setB_ne (by decide), setB_ne (by decide)]; exact h.u6
  · rw [setB_ne (by decide), h5]; intro e; cases e
  · rw [setB_ne (by decide), h6]; intro e; cases e
theorem JRl.s3 {v : Value} (h : JRl base rs rb cb w0 v0 i t n L z st st' b x w) (h3 : b 3 = false) (hd : rs < base ∧ rb < base ∧ cb < base ∧ rs ≠ rb ∧ cb ≠ rb ∧ w0.heap.size ≤ base) (hr : Rs w' rb st') (hg : w.grownBy w' (some rb)) : JRl base rs rb cb w0 v0 i t n L z st st' (setB b 3) (setX x 3 v) w' := by
  have h4 := not_of h.u4 h3
  have h5 := not_of h.u5 h4
  have h6 := not_of h.u6 h5
  obtain ⟨d1, d2, d3, d4, d5, d6⟩ := hd
  refine ⟨only_trans h.bel hg, h.res.kept hg (fun e => d4 (Option.some.inj e)), h.box.kept hg (fun e => d5 (Option.some.inj e)), by rw [setB_same]; exact hr, Nat.le_trans h.low hg.size, fun _ => (h.row h6).kept hg d2, fun _ => setB_same _ _, ?_, ?_, ?_, ?_⟩
  · rw [setB_ne (by decide), h5]; intro e; cases e
  · rw [setB_ne (by decide), h6]; intro e; cases e
  · rw [setB_ne (by decide), h5]; intro e; cases e
  · rw [setB_ne (by decide), h6]; intro e; cases e
theorem JRl.s5 (h : JRl base rs rb cb w0 v0 i t n L z st st' b x w) (h4 : b 4 = true) (h5 : b 5 = false) : JRl base rs rb cb w0 v0 i t n L z st st' (setB b 5) (setX x 5 (.slice (some ⟨w.heap.size, 0, none⟩) 1 1)) (w.alloc (.cells #[.int .u32 z] 43)) := by
  have h6 := not_of h.u6 h5
  have h3 := h.u4 h4
  have bb := (Below.refl _ w).alloc (Nat.le_refl _) (.cells #[.int .u32 z] 43)
  refine ⟨only_trans h.bel (only_of_below bb (some rb)), h.res.below bb, h.box.below bb, by rw [setB_ne (by decide), h3]; have := h.rd; rw [h3] at this; exact Rs.below this bb, Nat.le_trans h.low bb.size, fun _ => (h.row h6).below bb, ?_, fun _ => by rw [setB_ne (by decide)]; exact h4, ?_, ?_, ?_⟩
  · intro _; rw [setB_ne (by decide)]; exact h3
  · intro _; exact setB_same _ _
  · intro _ _; exact ⟨w.heap.size, setX_same _ _ _, heap_alloc_new w _⟩
  · rw [setB_ne (by decide), h6]; intro e; cases e
theorem JRl.s6 {v : Value} (h : JRl base rs rb cb w0 v0 i t n L z st st' b x w) (h5 : b 5 = true) (h6 : b 6 = false) (hd : rs < base ∧ rb < base ∧ cb < base ∧ rs ≠ rb ∧ cb ≠ rb ∧ w0.heap.size ≤ base) (hr : w'.ownsRow base 43 1 v (L.length + 1) (cellsK smOne L ++ cellsK smOne [z])) (hg : w.grownBy w' v0.ownBlock) : JRl base rs rb cb w0 v0 i t n L z st st' (setB b 6) (setX x 6 v) w' := by
  have hrow := h.row h6
  have h4 := h.u5 h5
  have h3 := h.u4 h4
  obtain ⟨d1, d2, d3, d4, d5, d6⟩ := hd
  have ho : ∀ g, v0.ownBlock = some g → base ≤ g := fun g hg => (hrow.own hg).1
  refine ⟨only_grown h.bel hg (fun q hq => by have := ho q hq; omega), h.res.kept hg (fun e => by have := ho _ e.symm; omega), h.box.kept hg (fun e => by have := ho _ e.symm; omega), ?_, Nat.le_trans h.low hg.size, ?_, ?_, ?_, ?_, ?_, ?_⟩
  · rw [setB_ne (by decide), h3]; have hq := h.rd; rw [h3] at hq; exact Rs.kept hq hg (fun e => by have := ho _ e.symm; omega)
  · rw [setB_same]; intro e; cases e
  · intro _; rw [setB_ne (by decide)]; exact h3
  · intro _; rw [setB_ne (by decide)]; exact h4
  · intro _; rw [setB_ne (by decide)]; exact h5
  · rw [setB_same]; intro _ e; cases e
  · intro _; rw [setX_same]; unfold SRow RowG; rw [cellsK_append, List.length_append]; exact hr
end
/-- What the list's reader reads. -/
structure Lst where
  i : Int
  t : Int
  n : Int
  S : List Int
def rdL (st : RS) : Lst × RS :=
  let a := numF 6 281474976710655 st
  let b := numF 6 281474976710655 a.2
  let c := numF 6 281474976710655 b.2
  let d := numF 6 64 c.2
  (⟨a.1, b.1, c.1, (rdSs d.1.toNat d.2).1⟩, (rdSs d.1.toNat d.2).2)
theorem LsB.put3 {x : World} {b : Nat} {u v : Value} {i t n : Int} (h : LsB x b u i t n) : LsB (x.setCell ⟨b, 3, none⟩ v) b v i t n := by
  unfold LsB lsA at h ⊢
  have h0 := block_setCell (i := 3) (u := v) h
  simp only [List.setIfInBounds_toArray, List.set_cons_zero, List.set_cons_succ] at h0
  exact h0
theorem LsB.set4 {x : World} {b : Nat} {u0 v : Value} {i0 t0 n0 i t n : Int} (h : LsB x b u0 i0 t0 n0) : LsB ((((x.setCell ⟨b, 0, none⟩ (.int .i64 i)).setCell ⟨b, 1, none⟩ (.int .i64 t)).setCell ⟨b, 2, none⟩ (.int .i64 n)).setCell ⟨b, 3, none⟩ v) b v i t n := by
  unfold LsB lsA at h ⊢
  have h0 := block_setCell (i := 0) (u := .int .i64 i) h
  have h1 := block_setCell (i := 1) (u := .int .i64 t) h0
  have h2 := block_setCell (i := 2) (u := .int .i64 n) h1
  have h3 := block_setCell (i := 3) (u := v) h2
  simp only [List.setIfInBounds_toArray, List.set_cons_zero, List.set_cons_succ] at h3
  exact h3
theorem LsB.setx {x : World} {b c k : Nat} {u v : Value} {i t n : Int} (h : LsB x c v i t n) (hne : c ≠ b) : LsB (x.setCell ⟨b, k, none⟩ u) c v i t n := kept_set h hne
theorem rlist_results (W : World) (tmps : Array Value) (b : Nat) (v : Value) (i t n : Int) (h4 : tmps.getD 2 undef = .pointer (some ⟨b, 0, none⟩)) (hN : LsB W b v i t n) :
    (results Try.f27 tmps).run Try.prog W = .ok (lsV v i t n) W := by
  obtain ⟨⟨c0, c1, c2, c3⟩, _⟩ := LsB.cells hN
  simp at h4
  simp [results, Try.results27, go_sem, h4, c0, c1, c2, c3, lsV]
set_option maxHeartbeats 8000000 in
theorem readlist_any (rb : Nat) (st : RS) (w : World) (h : Rs w rb st) :
    Calls Try.prog 27 #[.pointer (some ⟨rb, 0, none⟩)] w fun e w' => ∃ v, e = .returned (lsV v (rdL st).1.i (rdL st).1.t (rdL st).1.n) ∧ SRow w' w.heap.size v (rdL st).1.S ∧ Rs w' rb (rdL st).2 ∧ w.grownBy w' (some rb) := by
  have hrb := h.lt
  have b1 := (Below.refl _ w).alloc (Nat.le_refl _) (.cells (lsA (.slice none 0 0) 0 0 0) 27)
  have N1 := LsB.new w (.slice none 0 0) 0 0 0
  have R1 := h.below b1
  have q4 := fun s : RS => numF_most s 64 (by decide)
  have HC1 := Lib.hid (num_rs rb 281474976710655 st _ R1)
  have HC2 := Lib.hid (fun (W : World) (hW : Rs W rb (numF 6 281474976710655 st).2) => num_rs rb 281474976710655 _ W hW)
  have HC3 := Lib.hid (fun (W : World) (hW : Rs W rb (numF 6 281474976710655 (numF 6 281474976710655 st).2).2) => num_rs rb 281474976710655 _ W hW)
  have HC4 := Lib.hid (fun (W : World) (hW : Rs W rb (numF 6 281474976710655 (numF 6 281474976710655 (numF 6 281474976710655 st).2).2).2) => num_rs rb 64 _ W hW)
  rw [show max (281474976710655 : Int) 0 = 281474976710655 by decide] at HC1 HC2 HC3
  rw [show max (64 : Int) 0 = 64 by decide] at HC4
  have HRD := Lib.hid (show rdL st = (⟨(numF 6 281474976710655 st).1, (numF 6 281474976710655 (numF 6 281474976710655 st).2).1, (numF 6 281474976710655 (numF 6 281474976710655 (numF 6 281474976710655 st).2).2).1, (rdSs (numF 6 64 (numF 6 281474976710655 (numF 6 281474976710655 (numF 6 281474976710655 st).2).2).2).1.toNat (numF 6 64 (numF 6 281474976710655 (numF 6 281474976710655 (numF 6 281474976710655 st).2).2).2).2).1⟩, (rdSs (numF 6 64 (numF 6 281474976710655 (numF 6 281474976710655 (numF 6 281474976710655 st).2).2).2).1.toNat (numF 6 64 (numF 6 281474976710655 (numF 6 281474976710655 (numF 6 281474976710655 st).2).2).2).2).2) from rfl)
  generalize rdL st = Y at HRD ⊢
  generalize numF 6 281474976710655 st = A at HC1 HC2 HC3 HC4 HRD
  generalize numF 6 281474976710655 A.2 = B at HC2 HC3 HC4 HRD
  generalize numF 6 281474976710655 B.2 = C at HC3 HC4 HRD
  have qD := q4 C.2
  generalize numF 6 64 C.2 = D at HC4 HRD qD
  obtain ⟨vA, sA⟩ := A
  obtain ⟨vB, sB⟩ := B
  obtain ⟨vC, sC⟩ := C
  obtain ⟨vD, sD⟩ := D
  simp only at HC1 HC2 HC3 HC4 HRD qD
  obtain ⟨N, hN⟩ := Int.eq_ofNat_of_zero_le qD.1
  have hN64 : N ≤ 64 := by omega
  have HNT : Hid (vD.toNat = N) := Lib.hid (by omega)
  rw [HNT.out] at HRD
  rw [hN] at HC4
  have HN1 := Lib.hid N1
  have hws : (w.alloc (.cells (lsA (.slice none 0 0) 0 0 0) 27)).heap.size = w.heap.size + 1 := by simp
  obtain ⟨w1, hw1⟩ : ∃ w1, w1 = w.alloc (.cells (lsA (.slice none 0 0) 0 0 0) 27) := ⟨_, rfl⟩
  have hw1' := hw1
  unfold lsA at hw1'
  rw [← hw1] at HC1 HN1 b1 hws
  have hw1s : w.heap.size < w1.heap.size := by omega
  clear hN qD q4 HNT h R1 N1 hws
  go_enter Try.func27, Try.ntmps27
  go_upto_region 1 with fail
  rw [← hw1']
  clear hw1 hw1'
  go_wp2_with fail
  refine HC1.out.mono ?_
  rintro e w2 ⟨rfl, R2, g2⟩
  go_wp2_with fail
  refine (HC2.out _ R2).mono ?_
  rintro e w3 ⟨rfl, R3, g3⟩
  go_wp2_with fail
  refine (HC3.out _ R3).mono ?_
  rintro e w4 ⟨rfl, R4, g4⟩
  have gg := only_trans (only_trans g2 g3) g4
  have N4 := HN1.out.kept gg (fun e => by have := Option.some.inj e; omega)
  have G4 := only_trans (only_of_below b1 (some rb)) gg
  have b5 := (Below.refl _ w4).alloc (Nat.le_refl _) (.cells (lsA (.slice none 0 0) vA vB vC) 27)
  have K5 := LsB.new w4 (.slice none 0 0) vA vB vC
  have N5 := N4.below b5
  have R5 := R4.below b5
  have G5 := only_trans G4 (only_of_below b5 (some rb))
  have hrb4 := R4.lt
  have hw4 := N4.lt
  have hw44 := G4.size
  clear R2 R3 R4 g2 g3 g4 gg HC1 HC2 HC3 N4 G4 HN1 b5 b1
  go_upto_region 2 with fail
  obtain ⟨w5, hw5⟩ : ∃ w5, w5 = w4.alloc (.cells (lsA (.slice none 0 0) vA vB vC) 27) := ⟨_, rfl⟩
  have hw5' := hw5
  unfold lsA at hw5'
  rw [← hw5] at K5 N5 R5 G5
  rw [← hw5']
  obtain ⟨cb, hcb⟩ : ∃ cb, cb = w4.heap.size := ⟨_, rfl⟩
  rw [← hcb] at K5 ⊢
  have hcb5 := K5.lt
  have hd : w.heap.size < cb + 1 ∧ rb < cb + 1 ∧ cb < cb + 1 ∧ w.heap.size ≠ rb ∧ cb ≠ rb ∧ w.heap.size ≤ cb + 1 := by omega
  have hcw : w.heap.size ≠ cb ∧ w.heap.size ≤ cb ∧ rb ≠ cb := by omega
  have HC5 := Lib.hid (HC4.out _ R5)
  have HK5 := Lib.hid K5
  have HN5 := Lib.hid N5
  have HG5 := Lib.hid G5
  clear hw5 hw5' hcb K5 N5 R5 G5 HC4
  go_wp2_with fail
  refine HC5.out.mono ?_
  rintro e w8 ⟨rfl, R8, g8⟩
  have K8 := HK5.out.kept g8 (fun e => hd.2.2.2.2.1 (Option.some.inj e))
  have N8 := HN5.out.kept g8 (fun e => hd.2.2.2.1 (Option.some.inj e))
  have G8 := only_trans HG5.out g8
  have l8 : cb + 1 ≤ w8.heap.size := Nat.le_trans hcb5 g8.size
  clear HC5 HK5 HN5 HG5 g8
  go_wp2_with fail
  go_loopw [13] (fun iv wr => ∃ (j : Nat) (a : Option Addr) (c : Nat), j ≤ N ∧ iv = .int .i64 j ∧ LsB wr cb (.slice a j c) vA vB vC ∧ SRow wr (cb + 1) (.slice a j c) (rdSs j sD).1 ∧ Rs wr rb (rdSs j sD).2 ∧ LsB wr w.heap.size (.slice none 0 0) 0 0 0 ∧ w.grownBy wr (some rb) ∧ cb + 1 ≤ wr.heap.size) (fun iv _ => N - (intOf iv).toNat)
  case atStart => exact ⟨0, none, 0, Nat.zero_le _, rfl, K8, RowG.nil _ _, R8, N8, G8, l8⟩
  case round =>
    obtain ⟨j, a, cap, hj, rfl, hK, hO, hR, hN, hb, hlo⟩ := hrel
    clear K8 R8 N8 G8 l8
    by_cases hlt : j < N
    · have t2 : IntKind.i64.wrap ((j : Int) + 1) = (j : Int) + 1 := IntWalk.i64_in _ (by omega)
      have HON := Lib.hid (rdSs_len j sD)
      have hlt2 : decide ((j : Int) < (N : Int)) = true := by simp; omega
      have HSN : Hid ((rdSs (j + 1) sD).1 = (rdSs j sD).1 ++ [(numF 6 4294967295 (rdSs j sD).2).1] ∧ (rdSs (j + 1) sD).2 = (numF 6 4294967295 (rdSs j sD).2).2) := Lib.hid ⟨rfl, rfl⟩
      obtain ⟨L, hL⟩ : ∃ L, L = (rdSs j sD).1 := ⟨_, rfl⟩
      obtain ⟨st, hst⟩ : ∃ st, st = (rdSs j sD).2 := ⟨_, rfl⟩
      rw [← hL] at hO HON HSN
      rw [← hst] at hR HSN
      have hzq := numF_most st 4294967295 (by decide)
      have HRO := Lib.hid (fun (W : World) (hW : Rs W rb st) => num_rs rb 4294967295 st W hW)
      rw [show max (4294967295 : Int) 0 = 4294967295 by decide] at HRO
      generalize numF 6 4294967295 st = Z at hzq HRO HSN
      obtain ⟨z, st'⟩ := Z
      simp only at hzq HRO HSN
      have HZQ := Lib.hid hzq
      have HK0 := Lib.hid hK
      have HO0 := Lib.hid hO
      have HR0 := Lib.hid hR
      have HN0 := Lib.hid hN
      have HB0 := Lib.hid hb
      clear hL hst hK hO hR hN hb hzq
      go_upto_region 4 with fail
      refine wp_region_inv_last 8 (IFJ (FRl cb rb (.slice a j cap) z) (JRl (cb + 1) w.heap.size rb cb w (.slice a j cap) vA vB vC L z st st')) (by kernel_rfl) (by kernel_rfl) (by kernel_rfl) (by kernel_rfl) (by kernel_rfl) ?_ ?_ ?_
      · intro z
        exact ⟨fun k hk => (by cases hk), ⟨only_drew HB0.out, HN0.out, HK0.out, HR0.out.below ((Below.refl _ wr).drew), hlo, fun _ => HO0.out.below ((Below.refl _ wr).drew), fun hk => (by cases hk), fun hk => (by cases hk), fun hk => (by cases hk), fun hk => (by cases hk), fun hk => (by cases hk)⟩⟩
      · intro i o hi ho b zz w1 hI hbi hW
        match i, ho with
        | 0, ho =>
          obtain rfl := Option.some.inj ho
          exact gstep_field rfl (wanted0 rfl) _ _ _ rfl _ (eval_of 3 _ (by kernel_rfl) rfl) _ (run_lf3 w1 _) ⟨_, rfl, IFJ.step hI rfl (hI.2.pure (by decide))⟩
        | 1, ho =>
          obtain rfl := Option.some.inj ho
          exact gstep_load rfl (wanted0 rfl) _ _ rfl _ (eval_at 15 0 _ (by kernel_rfl) (show 15 < 25 by decide) (hI.1 0 (hW 0 (by kernel_rfl)))) _ (run_loadSms w1 _ _ _ _ hI.2.box.cells.1.2.2.2) ⟨_, rfl, IFJ.step hI rfl (hI.2.pure (by decide))⟩
        | 2, ho =>
          obtain rfl := Option.some.inj ho
          exact gstep_move rfl (wanted0 rfl) _ rfl _ (eval_of 0 _ (by kernel_rfl) rfl) ⟨_, rfl, IFJ.step hI rfl (hI.2.pure (by decide))⟩
        | 3, ho =>
          obtain rfl := Option.some.inj ho
          refine gstep_call2 rfl (wanted0 rfl) _ _ _ _ rfl _ _ (eval_at 17 2 _ (by kernel_rfl) (show 17 < 25 by decide) (hI.1 2 (hW 2 (by kernel_rfl)))) rfl (call_num w1 _ _) ?_
          refine (HRO.out w1 (by have := hI.2.rd; rw [hbi] at this; exact this)).mono ?_
          rintro e w2 ⟨rfl, hr, hg⟩
          exact ⟨_, rfl, _, rfl, IFJ.step hI rfl (hI.2.s3 hbi hd hr hg)⟩
        | 4, ho =>
          obtain rfl := Option.some.inj ho
          exact gstep_conv rfl (wanted0 rfl) _ _ _ rfl _ (eval_at 18 3 _ (by kernel_rfl) (show 18 < 25 by decide) (hI.1 3 (hW 3 (by kernel_rfl)))) _ (run_convS w1 _ HZQ.out) ⟨_, rfl, IFJ.step hI rfl (hI.2.s4 (hW 3 (by kernel_rfl)) hbi)⟩
        | 5, ho =>
          obtain rfl := Option.some.inj ho
          exact gstep_row1 rfl (wanted0 rfl) _ _ rfl _ (eval_at 19 4 _ (by kernel_rfl) (show 19 < 25 by decide) (hI.1 4 (hW 4 (by kernel_rfl)))) _ _ (run_rowS w1 _) ⟨_, rfl, IFJ.step hI trivial (hI.2.s5 (hW 4 (by kernel_rfl)) hbi)⟩
        | 6, ho =>
          obtain rfl := Option.some.inj ho
          obtain ⟨i1, hi1, hz1, hz2, hz3⟩ := info_parts info_sm
          have hb5 : b 5 = true := hW 5 (by kernel_rfl)
          obtain ⟨g1, hx5, hg1⟩ := hI.2.r5 hb5 hbi
          have hrow := hI.2.row hbi
          refine gstep_append rfl (wanted0 rfl) _ _ _ rfl (cb + 1) 43 i1 _ 1 4 und_sms hi1 hz1 hz2 hz3 rfl (by decide) _ L.length (cellsK smOne L) (eval_at 16 1 _ (by kernel_rfl) (show 16 < 25 by decide) (hI.1 1 (hW 1 (by kernel_rfl)))) hrow ⟨g1, 0, none⟩ 1 1 (cellsK smOne [z]) (eval_at 20 5 _ (by kernel_rfl) (show 20 < 25 by decide) hx5) rfl (fun q u hq => by
            match q, hq with
            | 0, hq => cases hq; simp [World.cell?, Addr.add, hg1]) (by intro u hu; simp [cellsK, smOne] at hu; subst hu; rfl) (by have := HON.out; unfold maxLen; omega) (by have := HON.out; omega) hI.2.low ?_
          intro v' w' ho hg
          exact ⟨_, rfl, IFJ.step hI trivial (hI.2.s6 hb5 hbi hd ho hg)⟩
        | 7, ho =>
          obtain rfl := Option.some.inj ho
          exact gstep_field rfl (wanted0 rfl) _ _ _ rfl _ (eval_of 3 _ (by kernel_rfl) rfl) _ (run_lf3 w1 _) ⟨_, rfl, IFJ.step hI rfl (hI.2.pure (by decide))⟩
        | n + 8, ho => omega
      · intro o ho b zz w9 hI hA
        obtain rfl := Option.some.inj ho
        have hF7 : zz 7 = .pointer (some ⟨cb, 3, none⟩) := hI.1 7 (hA 7 (by decide))
        have hrow := hI.2.r6 (hA 6 (by decide))
        obtain ⟨a9, c9, hx6, _⟩ := hrow.form
        rw [show (L ++ [z]).length = j + 1 by rw [List.length_append]; show L.length + 1 = _; rw [HON.out]] at hx6
        rw [hx6] at hrow
        have hcell := hI.2.box.cells.1.2.2.2
        have hfrz := hI.2.box.cells.2.2.2.2
        have hrd := hI.2.rd
        rw [hA 3 (by decide)] at hrd
        have HK9 := Lib.hid (hI.2.box.put3 (v := .slice a9 (j + 1) c9))
        have HO9 : Hid (SRow (w9.setCell ⟨cb, 3, none⟩ (.slice a9 (j + 1) c9)) (cb + 1) (.slice a9 (j + 1) c9) (L ++ [z])) := Lib.hid (hrow.set hd.2.2.1)
        have HR9 : Hid (Rs (w9.setCell ⟨cb, 3, none⟩ (.slice a9 (j + 1) c9)) rb st') := Lib.hid (Rs.set hrd hd.2.2.2.2.1.symm)
        have HN9 := Lib.hid (hI.2.res.setx (k := 3) (u := .slice a9 (j + 1) c9) hcw.1)
        have HB9 := Lib.hid (only_over hI.2.bel (p := ⟨cb, 3, none⟩) hcw.2.1 (.slice a9 (j + 1) c9))
        have HL9 : Hid (cb + 1 ≤ (w9.setCell ⟨cb, 3, none⟩ (.slice a9 (j + 1) c9)).heap.size) := Lib.hid (by have := hI.2.low; simpa [World.setCell] using this)
        refine gstep_store rfl (wanted0 rfl) _ _ _ rfl _ _ (eval_at 22 7 _ (by kernel_rfl) (show 22 < 25 by decide) hF7) (eval_at 21 6 _ (by kernel_rfl) (show 21 < 25 by decide) hx6) _ (run_storeSms w9 _ _ _ _ _ hcell hfrz) ?_
        simp only [putAll, Act.put, List.setIfInBounds_toArray, List.set_cons_succ, List.set_cons_zero]
        clear hI hA hrow hx6 hcell hfrz hF7 hrd
        obtain ⟨w10, hw10⟩ : ∃ w10, w10 = w9.setCell ⟨cb, 3, none⟩ (.slice a9 (j + 1) c9) := ⟨_, rfl⟩
        rw [← hw10] at HK9 HO9 HR9 HN9 HB9 HL9 ⊢
        clear hw10
        go_wp2_with fail
        go_roundw
        case rel => exact ⟨j + 1, a9, c9, by omega, by go_num, HK9.out, by rw [HSN.out.1]; exact HO9.out, by rw [HSN.out.2]; exact HR9.out, HN9.out, HB9.out, HL9.out⟩
        case measure => simp [intOf]; omega
    · obtain rfl : j = N := by omega
      have hlt2 : decide ((j : Int) < (j : Int)) = false := by simp
      obtain ⟨⟨c0, c1, c2, c3⟩, _⟩ := hK.cells
      obtain ⟨⟨x0, x1, x2, x3⟩, y0, y1, y2, y3⟩ := hN.cells
      have ZZ := Lib.hid (hN.set4 (v := .slice a j cap) (i := vA) (t := vB) (n := vC))
      have GZ := Lib.hid (only_over (only_over (only_over (only_over hb (p := ⟨w.heap.size, 0, none⟩) (Nat.le_refl _) (.int .i64 vA)) (p := ⟨w.heap.size, 1, none⟩) (Nat.le_refl _) (.int .i64 vB)) (p := ⟨w.heap.size, 2, none⟩) (Nat.le_refl _) (.int .i64 vC)) (p := ⟨w.heap.size, 3, none⟩) (Nat.le_refl _) (.slice a j cap))
      have hwc : w.heap.size < cb + 1 := hd.1
      have OZ := Lib.hid ((((RowG.set (i := 0) (u := .int .i64 vA) hO hwc).set (i := 1) (u := .int .i64 vB) hwc).set (i := 2) (u := .int .i64 vC) hwc).set (i := 3) (u := .slice a j cap) hwc)
      have RZ := Lib.hid (Rs.set (i := 3) (u := .slice a j cap) (Rs.set (i := 2) (u := .int .i64 vC) (Rs.set (i := 1) (u := .int .i64 vB) (Rs.set (i := 0) (u := .int .i64 vA) hR hd.2.2.2.1.symm) hd.2.2.2.1.symm) hd.2.2.2.1.symm) hd.2.2.2.1.symm)
      clear hK hO hR hN hb
      go_wp2_with fail
      refine bodyPost_ret (rlist_results _ _ w.heap.size (.slice a j cap) vA vB vC rfl ZZ.out) rfl ⟨.slice a j cap, by rw [HRD.out], by rw [HRD.out]; exact OZ.out.less (by omega), by rw [HRD.out]; exact RZ.out, GZ.out⟩
end Go.Proofs.Ytddkbninkncbeaa
